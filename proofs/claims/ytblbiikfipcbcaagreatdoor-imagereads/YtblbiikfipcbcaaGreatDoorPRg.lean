import Derived.Test.YtblbiikfipcbcaaGreatDoorPRf
import Derived.Test.YtblbiikfipcbcaaGreatDoorPRa
import Derived.Deep.RegionHeld3
/-
  Images, the reader: a graph's parts, told whole.
-/
set_option linter.unusedVariables false
set_option maxRecDepth 20000
namespace Go.Proofs.YtblbiikfipcbcaaGreatDoor
open Go.RowKit Go.Shelf

/-- The five parts of a graph in block B, all of whose lists are empty. -/
structure Gpp (lo : Nat) (w : World) (B g : Nat) (u : Value) (c c1 c2 c3 : Nat) : Prop where
  gl : lo ≤ g
  g : w.heap[g]? = some (.cells #[.iface 103 (.agg #[.pointer (some ⟨B, 5, none⟩), .int .u64 ((0 : Nat) : Int)]), lpart ((0 : Nat) : Int) 51 65 c c1, lpart ((0 : Nat) : Int) 54 68 c c2, lpart ((0 : Nat) : Int) 57 71 c c3, u] 78 (0, 0))
  u : Nb lo B 4 72 71 u w
  cg : lo ≤ c
  cl : c < w.heap.size
  cc : w.cell? ⟨c, 0, none⟩ = some (.pointer (some ⟨B, 0, none⟩))
  g1 : lo ≤ c1
  l1 : c1 < w.heap.size
  k1 : w.cell? ⟨c1, 0, none⟩ = some (.pointer (some ⟨B, 0, none⟩))
  g2 : lo ≤ c2
  l2 : c2 < w.heap.size
  k2 : w.cell? ⟨c2, 0, none⟩ = some (.pointer (some ⟨B, 1, none⟩))
  g3 : lo ≤ c3
  l3 : c3 < w.heap.size
  k3 : w.cell? ⟨c3, 0, none⟩ = some (.pointer (some ⟨B, 2, none⟩))

set_option maxHeartbeats 8000000 in
theorem parts_ex {w : World} {B : Nat} (hB : B < w.heap.size) (hz : ∀ j, j < 5 → w.cell? ⟨B, j, none⟩ = some (.slice none 0 0)) :
    Calls Tryz.prog 39 #[.pointer (some ⟨B, 0, none⟩)] w fun e w' => Below w.heap.size w w' ∧ ∃ g, e = .returned (.iface 108 (.slice (some ⟨g, 0, none⟩) 5 5)) ∧ ∃ u c c1 c2 c3, Gpp w.heap.size w' B g u c c1 c2 c3 := by
  have b5 : Below w.heap.size w (w.alloc (.cells #[.pointer (some ⟨B, 0, none⟩)] 80)) := Below.alloc (Below.refl _ _) (Nat.le_refl _) _
  have h5 := (Kg.heap_cell (heap_alloc_new w (.cells #[.pointer (some ⟨B, 0, none⟩)] 80 (0, 0))) 0).trans (show _ = some (.pointer (some ⟨B, 0, none⟩)) from rfl)
  have s5 : (w.alloc (.cells #[.pointer (some ⟨B, 0, none⟩)] 80)).heap.size = w.heap.size + 1 := by simp
  go_enter Tryz.func39, Tryz.ntmps39
  go_upto_region 1 with fail
  have HB5 : Hid (Below w.heap.size w (w.alloc (.cells #[.pointer (some ⟨B, 0, none⟩)] 80))) := b5
  generalize w.alloc (.cells #[.pointer (some ⟨B, 0, none⟩)] 80) = W at *
  have Hh5 : Hid (W.cell? ⟨w.heap.size, 0, none⟩ = some (.pointer (some ⟨B, 0, none⟩))) := h5
  have HN : Hid (∀ w', Below W.heap.size W w' → Calls Tryz.prog 58 #[.pointer (some ⟨B, 4, none⟩)] w' fun e w'' => ∃ u, e = .returned (.iface 106 u) ∧ Below w'.heap.size w' w'' ∧ Nb w.heap.size B 4 72 71 (.iface 106 u) w'') := fun w' b' => by
    have b0 := HB5.out.trans (b'.mono HB5.out.size)
    have hsz := b0.size
    refine (numbers_ex w' B 4 0 0 none (by omega) ((b0.cell (p := ⟨B, 4, none⟩) hB).trans (hz 4 (by decide)))).mono ?_
    rintro e w'' ⟨c, c2, rfl, b2, bx⟩
    exact ⟨_, rfl, b2, c, c2, rfl, by have := bx.cg; omega, bx.cl, by have := bx.dg; omega, bx.dl, bx.cc, bx.dc⟩
  have HO : Hid (∀ w', Below W.heap.size W w' → Calls Tryz.prog 50 #[.pointer (some ⟨B, 0, none⟩), .func (.func 51) #[] #[.pointer (some ⟨w.heap.size, 0, none⟩)]] w' fun e w'' => ∃ c2, e = .returned (.iface 106 (.agg #[.int .i64 ((0 : Nat) : Int), .func (.func 51) #[] #[.pointer (some ⟨w.heap.size, 0, none⟩)], .func (.func 65) #[] #[.pointer (some ⟨c2, 0, none⟩)]])) ∧ Below w'.heap.size w' w'' ∧ w'.heap.size ≤ c2 ∧ c2 < w''.heap.size ∧ w''.cell? ⟨c2, 0, none⟩ = some (.pointer (some ⟨B, 0, none⟩))) := fun w' b' => by
    have b0 := HB5.out.trans (b'.mono HB5.out.size)
    have hsz := b0.size
    exact listO_ex w' B 0 51 w.heap.size 0 0 none (by omega) ((b0.cell (p := ⟨B, 0, none⟩) hB).trans (hz 0 (by decide)))
  have HFr : Hid (∀ w', Below W.heap.size W w' → Calls Tryz.prog 53 #[.pointer (some ⟨B, 1, none⟩), .func (.func 54) #[] #[.pointer (some ⟨w.heap.size, 0, none⟩)]] w' fun e w'' => ∃ c2, e = .returned (.iface 106 (.agg #[.int .i64 ((0 : Nat) : Int), .func (.func 54) #[] #[.pointer (some ⟨w.heap.size, 0, none⟩)], .func (.func 68) #[] #[.pointer (some ⟨c2, 0, none⟩)]])) ∧ Below w'.heap.size w' w'' ∧ w'.heap.size ≤ c2 ∧ c2 < w''.heap.size ∧ w''.cell? ⟨c2, 0, none⟩ = some (.pointer (some ⟨B, 1, none⟩))) := fun w' b' => by
    have b0 := HB5.out.trans (b'.mono HB5.out.size)
    have hsz := b0.size
    exact listF_ex w' B 1 54 w.heap.size 0 0 none (by omega) ((b0.cell (p := ⟨B, 1, none⟩) hB).trans (hz 1 (by decide)))
  have HI : Hid (∀ w', Below W.heap.size W w' → Calls Tryz.prog 56 #[.pointer (some ⟨B, 2, none⟩), .func (.func 57) #[] #[.pointer (some ⟨w.heap.size, 0, none⟩)]] w' fun e w'' => ∃ c2, e = .returned (.iface 106 (.agg #[.int .i64 ((0 : Nat) : Int), .func (.func 57) #[] #[.pointer (some ⟨w.heap.size, 0, none⟩)], .func (.func 71) #[] #[.pointer (some ⟨c2, 0, none⟩)]])) ∧ Below w'.heap.size w' w'' ∧ w'.heap.size ≤ c2 ∧ c2 < w''.heap.size ∧ w''.cell? ⟨c2, 0, none⟩ = some (.pointer (some ⟨B, 2, none⟩))) := fun w' b' => by
    have b0 := HB5.out.trans (b'.mono HB5.out.size)
    have hsz := b0.size
    exact listI_ex w' B 2 57 w.heap.size 0 0 none (by omega) ((b0.cell (p := ⟨B, 2, none⟩) hB).trans (hz 2 (by decide)))
  clear b5 h5
  refine wp_region_held_drew (S := (fun w' => w'.cell? ⟨w.heap.size, 0, none⟩ = some (.pointer (some ⟨B, 0, none⟩)))) Kg.mixed Hh5.out (fun hHeld => ?_)
  refine wpAnyH_take (i := 0) (v := (.pointer (some ⟨B, 0, none⟩))) rfl (by kernel_rfl) (by kernel_rfl) (by kernel_rfl) (fun _ _ _ h => h) (Or.inl ⟨by rfl, fun wx hSw => ?_⟩) (by assumption) ?_
  · go_simp
  change wpAnyH _ _ _ _ _ _ _ (Act.put _ (some 3) (.pointer (some ⟨B, 0, none⟩))) _
  simp only [Act.put, List.setIfInBounds_toArray, List.set_cons_zero, List.set_cons_succ]
  refine wpAnyH_take (i := 1) (v := (.pointer (some ⟨B, 0, none⟩))) rfl (by kernel_rfl) (by kernel_rfl) (by kernel_rfl) (fun _ _ _ h => h) (Or.inl ⟨by rfl, fun wx hSw => ?_⟩) (by assumption) ?_
  · go_simp
  change wpAnyH _ _ _ _ _ _ _ (Act.put _ (some 4) (.pointer (some ⟨B, 0, none⟩))) _
  simp only [Act.put, List.setIfInBounds_toArray, List.set_cons_zero, List.set_cons_succ]
  refine wpAnyH_take (i := 2) (v := (.pointer (some ⟨B, 5, none⟩))) rfl (by kernel_rfl) (by kernel_rfl) (by kernel_rfl) (fun _ _ _ h => h) (Or.inl ⟨by rfl, fun wx hSw => ?_⟩) (by assumption) ?_
  · go_simp
  change wpAnyH _ _ _ _ _ _ _ (Act.put _ (some 5) (.pointer (some ⟨B, 5, none⟩))) _
  simp only [Act.put, List.setIfInBounds_toArray, List.set_cons_zero, List.set_cons_succ]
  refine wpAnyH_take (i := 3) (v := (.agg #[.pointer (some ⟨B, 5, none⟩), .int .u64 ((0 : Nat) : Int)])) rfl (by kernel_rfl) (by kernel_rfl) (by kernel_rfl) (fun _ _ _ h => h) (Or.inl ⟨by rfl, fun wx hSw => ?_⟩) (by assumption) ?_
  · go_simp
  change wpAnyH _ _ _ _ _ _ _ (Act.put _ (some 6) (.agg #[.pointer (some ⟨B, 5, none⟩), .int .u64 ((0 : Nat) : Int)])) _
  simp only [Act.put, List.setIfInBounds_toArray, List.set_cons_zero, List.set_cons_succ]
  refine wpAnyH_take (i := 4) (v := (.iface 103 (.agg #[.pointer (some ⟨B, 5, none⟩), .int .u64 ((0 : Nat) : Int)]))) rfl (by kernel_rfl) (by kernel_rfl) (by kernel_rfl) (fun _ _ _ h => h) (Or.inl ⟨by rfl, fun wx hSw => ?_⟩) (by assumption) ?_
  · go_simp
  change wpAnyH _ _ _ _ _ _ _ (Act.put _ (some 7) (.iface 103 (.agg #[.pointer (some ⟨B, 5, none⟩), .int .u64 ((0 : Nat) : Int)]))) _
  simp only [Act.put, List.setIfInBounds_toArray, List.set_cons_zero, List.set_cons_succ]
  refine wpAnyH_take (i := 5) (v := (.pointer (some ⟨B, 0, none⟩))) rfl (by kernel_rfl) (by kernel_rfl) (by kernel_rfl) (fun _ _ _ h => h) (Or.inl ⟨by rfl, fun wx hSw => ?_⟩) (by assumption) ?_
  · go_simp
  change wpAnyH _ _ _ _ _ _ _ (Act.put _ (some 8) (.pointer (some ⟨B, 0, none⟩))) _
  simp only [Act.put, List.setIfInBounds_toArray, List.set_cons_zero, List.set_cons_succ]
  refine wpAnyH_take (i := 6) (v := (.pointer (some ⟨B, 0, none⟩))) rfl (by kernel_rfl) (by kernel_rfl) (by kernel_rfl) (fun _ _ _ h => h) (Or.inl ⟨by rfl, fun wx hSw => ?_⟩) (by assumption) ?_
  · go_simp
  change wpAnyH _ _ _ _ _ _ _ (Act.put _ (some 9) (.pointer (some ⟨B, 0, none⟩))) _
  simp only [Act.put, List.setIfInBounds_toArray, List.set_cons_zero, List.set_cons_succ]
  refine wpAnyH_take (i := 7) (v := (.pointer (some ⟨B, 0, none⟩))) rfl (by kernel_rfl) (by kernel_rfl) (by kernel_rfl) (fun _ _ _ h => h) (Or.inl ⟨by rfl, fun wx hSw => ?_⟩) (by assumption) ?_
  · go_simp
  change wpAnyH _ _ _ _ _ _ _ (Act.put _ (some 10) (.pointer (some ⟨B, 0, none⟩))) _
  simp only [Act.put, List.setIfInBounds_toArray, List.set_cons_zero, List.set_cons_succ]
  refine wpAnyH_take (i := 8) (v := (.func (.func 51) #[] #[.pointer (some ⟨w.heap.size, 0, none⟩)])) rfl (by kernel_rfl) (by kernel_rfl) (by kernel_rfl) (fun _ _ _ h => h) (Or.inl ⟨by rfl, fun wx hSw => ?_⟩) (by assumption) ?_
  · go_simp
  change wpAnyH _ _ _ _ _ _ _ (Act.put _ (some 11) (.func (.func 51) #[] #[.pointer (some ⟨w.heap.size, 0, none⟩)])) _
  simp only [Act.put, List.setIfInBounds_toArray, List.set_cons_zero, List.set_cons_succ]
  refine wpAnyH_take (i := 10) (v := (.pointer (some ⟨B, 0, none⟩))) rfl (by kernel_rfl) (by kernel_rfl) (by kernel_rfl) (fun _ _ _ h => h) (Or.inl ⟨by rfl, fun wx hSw => ?_⟩) (by assumption) ?_
  · go_simp
  change wpAnyH _ _ _ _ _ _ _ (Act.put _ (some 13) (.pointer (some ⟨B, 0, none⟩))) _
  simp only [Act.put, List.setIfInBounds_toArray, List.set_cons_zero, List.set_cons_succ]
  refine wpAnyH_take (i := 11) (v := (.pointer (some ⟨B, 0, none⟩))) rfl (by kernel_rfl) (by kernel_rfl) (by kernel_rfl) (fun _ _ _ h => h) (Or.inl ⟨by rfl, fun wx hSw => ?_⟩) (by assumption) ?_
  · go_simp
  change wpAnyH _ _ _ _ _ _ _ (Act.put _ (some 14) (.pointer (some ⟨B, 0, none⟩))) _
  simp only [Act.put, List.setIfInBounds_toArray, List.set_cons_zero, List.set_cons_succ]
  refine wpAnyH_take (i := 12) (v := (.pointer (some ⟨B, 1, none⟩))) rfl (by kernel_rfl) (by kernel_rfl) (by kernel_rfl) (fun _ _ _ h => h) (Or.inl ⟨by rfl, fun wx hSw => ?_⟩) (by assumption) ?_
  · go_simp
  change wpAnyH _ _ _ _ _ _ _ (Act.put _ (some 15) (.pointer (some ⟨B, 1, none⟩))) _
  simp only [Act.put, List.setIfInBounds_toArray, List.set_cons_zero, List.set_cons_succ]
  refine wpAnyH_take (i := 13) (v := (.func (.func 54) #[] #[.pointer (some ⟨w.heap.size, 0, none⟩)])) rfl (by kernel_rfl) (by kernel_rfl) (by kernel_rfl) (fun _ _ _ h => h) (Or.inl ⟨by rfl, fun wx hSw => ?_⟩) (by assumption) ?_
  · go_simp
  change wpAnyH _ _ _ _ _ _ _ (Act.put _ (some 16) (.func (.func 54) #[] #[.pointer (some ⟨w.heap.size, 0, none⟩)])) _
  simp only [Act.put, List.setIfInBounds_toArray, List.set_cons_zero, List.set_cons_succ]
  refine wpAnyH_take (i := 15) (v := (.pointer (some ⟨B, 0, none⟩))) rfl (by kernel_rfl) (by kernel_rfl) (by kernel_rfl) (fun _ _ _ h => h) (Or.inl ⟨by rfl, fun wx hSw => ?_⟩) (by assumption) ?_
  · go_simp
  change wpAnyH _ _ _ _ _ _ _ (Act.put _ (some 18) (.pointer (some ⟨B, 0, none⟩))) _
  simp only [Act.put, List.setIfInBounds_toArray, List.set_cons_zero, List.set_cons_succ]
  refine wpAnyH_take (i := 16) (v := (.pointer (some ⟨B, 0, none⟩))) rfl (by kernel_rfl) (by kernel_rfl) (by kernel_rfl) (fun _ _ _ h => h) (Or.inl ⟨by rfl, fun wx hSw => ?_⟩) (by assumption) ?_
  · go_simp
  change wpAnyH _ _ _ _ _ _ _ (Act.put _ (some 19) (.pointer (some ⟨B, 0, none⟩))) _
  simp only [Act.put, List.setIfInBounds_toArray, List.set_cons_zero, List.set_cons_succ]
  refine wpAnyH_take (i := 17) (v := (.pointer (some ⟨B, 2, none⟩))) rfl (by kernel_rfl) (by kernel_rfl) (by kernel_rfl) (fun _ _ _ h => h) (Or.inl ⟨by rfl, fun wx hSw => ?_⟩) (by assumption) ?_
  · go_simp
  change wpAnyH _ _ _ _ _ _ _ (Act.put _ (some 20) (.pointer (some ⟨B, 2, none⟩))) _
  simp only [Act.put, List.setIfInBounds_toArray, List.set_cons_zero, List.set_cons_succ]
  refine wpAnyH_take (i := 18) (v := (.func (.func 57) #[] #[.pointer (some ⟨w.heap.size, 0, none⟩)])) rfl (by kernel_rfl) (by kernel_rfl) (by kernel_rfl) (fun _ _ _ h => h) (Or.inl ⟨by rfl, fun wx hSw => ?_⟩) (by assumption) ?_
  · go_simp
  change wpAnyH _ _ _ _ _ _ _ (Act.put _ (some 21) (.func (.func 57) #[] #[.pointer (some ⟨w.heap.size, 0, none⟩)])) _
  simp only [Act.put, List.setIfInBounds_toArray, List.set_cons_zero, List.set_cons_succ]
  refine wpAnyH_take (i := 20) (v := (.pointer (some ⟨B, 0, none⟩))) rfl (by kernel_rfl) (by kernel_rfl) (by kernel_rfl) (fun _ _ _ h => h) (Or.inl ⟨by rfl, fun wx hSw => ?_⟩) (by assumption) ?_
  · go_simp
  change wpAnyH _ _ _ _ _ _ _ (Act.put _ (some 23) (.pointer (some ⟨B, 0, none⟩))) _
  simp only [Act.put, List.setIfInBounds_toArray, List.set_cons_zero, List.set_cons_succ]
  refine wpAnyH_take (i := 21) (v := (.pointer (some ⟨B, 0, none⟩))) rfl (by kernel_rfl) (by kernel_rfl) (by kernel_rfl) (fun _ _ _ h => h) (Or.inl ⟨by rfl, fun wx hSw => ?_⟩) (by assumption) ?_
  · go_simp
  change wpAnyH _ _ _ _ _ _ _ (Act.put _ (some 24) (.pointer (some ⟨B, 0, none⟩))) _
  simp only [Act.put, List.setIfInBounds_toArray, List.set_cons_zero, List.set_cons_succ]
  refine wpAnyH_take (i := 22) (v := (.pointer (some ⟨B, 4, none⟩))) rfl (by kernel_rfl) (by kernel_rfl) (by kernel_rfl) (fun _ _ _ h => h) (Or.inl ⟨by rfl, fun wx hSw => ?_⟩) (by assumption) ?_
  · go_simp
  change wpAnyH _ _ _ _ _ _ _ (Act.put _ (some 25) (.pointer (some ⟨B, 4, none⟩))) _
  simp only [Act.put, List.setIfInBounds_toArray, List.set_cons_zero, List.set_cons_succ]
  have hB0 : Below W.heap.size W W.drew := Below.drew (Below.refl _ _)
  have h50 := Hh5.out
  refine wpAnyH_ready (rs := [9]) (by kernel_rfl) (by simp) (AllReadyH.cons rfl (fun K hK => ?_) AllReadyH.nil)
  go_simp
  refine (HO.out _ hB0).mono ?_
  rintro e w1 ⟨c1, rfl, b1, d1, e1, f1⟩
  have h51 := (b1.cell (p := ⟨w.heap.size, 0, none⟩) (by show w.heap.size < W.drew.heap.size; simp; omega)).trans Hh5.out
  have hB1 := hB0.trans (b1.mono hB0.size)
  refine hK.out _ _ h51 (fun hHeld1 => ?_)
  clear hK K hHeld
  have hHeld := hHeld1
  clear hHeld1
  refine wpAnyH_ready (rs := [14]) (by kernel_rfl) (by simp) (AllReadyH.cons rfl (fun K hK => ?_) AllReadyH.nil)
  go_simp
  refine (HFr.out _ hB1).mono ?_
  rintro e w2 ⟨c2, rfl, b2, d2, e2, f2⟩
  have h52 := (b2.cell (p := ⟨w.heap.size, 0, none⟩) (by show w.heap.size < w1.heap.size; have := hB1.size; simp at *; omega)).trans h51
  have hB2 := hB1.trans (b2.mono hB1.size)
  refine hK.out _ _ h52 (fun hHeld2 => ?_)
  clear hK K hHeld
  have hHeld := hHeld2
  clear hHeld2
  refine wpAnyH_ready (rs := [19]) (by kernel_rfl) (by simp) (AllReadyH.cons rfl (fun K hK => ?_) AllReadyH.nil)
  go_simp
  refine (HI.out _ hB2).mono ?_
  rintro e w3 ⟨c3, rfl, b3, d3, e3, f3⟩
  have h53 := (b3.cell (p := ⟨w.heap.size, 0, none⟩) (by show w.heap.size < w2.heap.size; have := hB2.size; simp at *; omega)).trans h52
  have hB3 := hB2.trans (b3.mono hB2.size)
  refine hK.out _ _ h53 (fun hHeld3 => ?_)
  clear hK K hHeld
  have hHeld := hHeld3
  clear hHeld3
  refine wpAnyH_ready (rs := [23]) (by kernel_rfl) (by simp) (AllReadyH.cons rfl (fun K hK => ?_) AllReadyH.nil)
  go_simp
  refine (HN.out _ hB3).mono ?_
  rintro e w4 ⟨u, rfl, b4, hu4⟩
  have h54 := (b4.cell (p := ⟨w.heap.size, 0, none⟩) (by show w.heap.size < w3.heap.size; have := hB3.size; simp at *; omega)).trans h53
  have hB4 := hB3.trans (b4.mono hB3.size)
  refine hK.out _ _ h54 (fun hHeld4 => ?_)
  clear hK K hHeld
  have hHeld := hHeld4
  clear hHeld4
  refine wpAnyH_ready (rs := [24]) (by kernel_rfl) (by simp) (AllReadyH.cons rfl (fun K hK => ?_) AllReadyH.nil)
  go_simp
  have b6 : Below w4.heap.size w4 (w4.alloc (.cells #[.iface 103 (.agg #[.pointer (some ⟨B, 5, none⟩), .int .u64 ((0 : Nat) : Int)]), .iface 106 (.agg #[.int .i64 ((0 : Nat) : Int), .func (.func 51) #[] #[.pointer (some ⟨w.heap.size, 0, none⟩)], .func (.func 65) #[] #[.pointer (some ⟨c1, 0, none⟩)]]), .iface 106 (.agg #[.int .i64 ((0 : Nat) : Int), .func (.func 54) #[] #[.pointer (some ⟨w.heap.size, 0, none⟩)], .func (.func 68) #[] #[.pointer (some ⟨c2, 0, none⟩)]]), .iface 106 (.agg #[.int .i64 ((0 : Nat) : Int), .func (.func 57) #[] #[.pointer (some ⟨w.heap.size, 0, none⟩)], .func (.func 71) #[] #[.pointer (some ⟨c3, 0, none⟩)]]), .iface 106 u] 78)) := Below.alloc (Below.refl _ _) (Nat.le_refl _) _
  have hg6 := heap_alloc_new w4 (.cells #[.iface 103 (.agg #[.pointer (some ⟨B, 5, none⟩), .int .u64 ((0 : Nat) : Int)]), .iface 106 (.agg #[.int .i64 ((0 : Nat) : Int), .func (.func 51) #[] #[.pointer (some ⟨w.heap.size, 0, none⟩)], .func (.func 65) #[] #[.pointer (some ⟨c1, 0, none⟩)]]), .iface 106 (.agg #[.int .i64 ((0 : Nat) : Int), .func (.func 54) #[] #[.pointer (some ⟨w.heap.size, 0, none⟩)], .func (.func 68) #[] #[.pointer (some ⟨c2, 0, none⟩)]]), .iface 106 (.agg #[.int .i64 ((0 : Nat) : Int), .func (.func 57) #[] #[.pointer (some ⟨w.heap.size, 0, none⟩)], .func (.func 71) #[] #[.pointer (some ⟨c3, 0, none⟩)]]), .iface 106 u] 78 (0, 0))
  have h56 := (b6.cell (p := ⟨w.heap.size, 0, none⟩) (by show w.heap.size < w4.heap.size; have := hB4.size; omega)).trans h54
  refine hK.out _ _ h56 (fun hHeld25 => ?_)
  clear hK K hHeld
  have hHeld := hHeld25
  clear hHeld25
  generalize w4.alloc (.cells #[.iface 103 (.agg #[.pointer (some ⟨B, 5, none⟩), .int .u64 ((0 : Nat) : Int)]), .iface 106 (.agg #[.int .i64 ((0 : Nat) : Int), .func (.func 51) #[] #[.pointer (some ⟨w.heap.size, 0, none⟩)], .func (.func 65) #[] #[.pointer (some ⟨c1, 0, none⟩)]]), .iface 106 (.agg #[.int .i64 ((0 : Nat) : Int), .func (.func 54) #[] #[.pointer (some ⟨w.heap.size, 0, none⟩)], .func (.func 68) #[] #[.pointer (some ⟨c2, 0, none⟩)]]), .iface 106 (.agg #[.int .i64 ((0 : Nat) : Int), .func (.func 57) #[] #[.pointer (some ⟨w.heap.size, 0, none⟩)], .func (.func 71) #[] #[.pointer (some ⟨c3, 0, none⟩)]]), .iface 106 u] 78) = w6 at *
  refine wpAnyH_take (i := 25) (v := (.iface 108 (.slice (some ⟨w4.heap.size, 0, none⟩) 5 5))) rfl (by kernel_rfl) (by kernel_rfl) (by kernel_rfl) (fun _ _ _ h => h) (Or.inl ⟨by rfl, fun wx hSw => ?_⟩) (by assumption) ?_
  · go_simp
  change wpAnyH _ _ _ _ _ _ _ (Act.put _ (some 28) (.iface 108 (.slice (some ⟨w4.heap.size, 0, none⟩) 5 5))) _
  simp only [Act.put, List.setIfInBounds_toArray, List.set_cons_zero, List.set_cons_succ]
  refine wpAnyH_take (i := 26) (v := (.iface 108 (.slice (some ⟨w4.heap.size, 0, none⟩) 5 5))) rfl (by kernel_rfl) (by kernel_rfl) (by kernel_rfl) (fun _ _ _ h => h) (Or.inl ⟨by rfl, fun wx hSw => ?_⟩) (by assumption) ?_
  · go_simp
  change wpAnyH _ _ _ _ _ _ _ (Act.put _ (some 2) (.iface 108 (.slice (some ⟨w4.heap.size, 0, none⟩) 5 5))) _
  simp only [Act.put, List.setIfInBounds_toArray, List.set_cons_zero, List.set_cons_succ]
  refine wpAnyH_done (by kernel_rfl) ?_ _
  have HF : Hid (Below w.heap.size w w6 ∧ Gpp w.heap.size w6 B (w4.heap.size) (.iface 106 u) w.heap.size c1 c2 c3) := by
    have hB6 := hB4.trans (b6.mono hB4.size)
    have hs1 := hB1.size
    have hs2 := b2.size
    have hs3 := b3.size
    have hs4 := b4.size
    have hs6 := b6.size
    have hB5s := HB5.out.size
    exact ⟨HB5.out.trans (hB6.mono HB5.out.size), ⟨by omega, hg6, hu4.keep b6, Nat.le_refl _, by omega, h56, by simp at d1; omega, by omega, (b6.cell (p := ⟨c1, 0, none⟩) (by show c1 < w4.heap.size; omega)).trans ((b4.cell (p := ⟨c1, 0, none⟩) (by show c1 < w3.heap.size; omega)).trans ((b3.cell (p := ⟨c1, 0, none⟩) (by show c1 < w2.heap.size; omega)).trans ((b2.cell (p := ⟨c1, 0, none⟩) e1).trans f1))),
      by omega, by omega, (b6.cell (p := ⟨c2, 0, none⟩) (by show c2 < w4.heap.size; omega)).trans ((b4.cell (p := ⟨c2, 0, none⟩) (by show c2 < w3.heap.size; omega)).trans ((b3.cell (p := ⟨c2, 0, none⟩) e2).trans f2)),
      by omega, by omega, (b6.cell (p := ⟨c3, 0, none⟩) (by show c3 < w4.heap.size; omega)).trans ((b4.cell (p := ⟨c3, 0, none⟩) e3).trans f3)⟩⟩
  clear hHeld hg6 b6 h56 h54 hu4 hB4 h51 h52 h53 hB1 hB2 hB3 b1 b2 b3 b4 d1 d2 d3 e1 e2 e3 f1 f2 f3
  go_wp2
  go_ret
  exact ⟨HF.out.1, _, rfl, _, _, _, _, _, HF.out.2⟩

end Go.Proofs.YtblbiikfipcbcaaGreatDoor

/-
  Images, the reader: all parts of a graph.
-/
set_option linter.unusedVariables false
set_option maxRecDepth 20000
namespace Go.Proofs.YtblbiikfipcbcaaGreatDoor
open Go.RowKit Go.Shelf

theorem row_st5 {w1 w2 : World} {lo e n : Nat} {u : Value} {xs : List Value} {G : List Nat} (h : w1.ownsRow lo e 5 u n xs) (t : Kg.Touch G w1 w2) (hG : ∀ k, k ∈ G → ∀ cs t', w1.heap[k]? = some (.cells cs t' (0, 0)) → t' ≠ e) : w2.ownsRow lo e 5 u n xs := by
  refine Kg.row_keep2 h t (fun k hk hm => ?_)
  rcases h.2 with ⟨h1, _⟩ | ⟨g, cp, cu, e1, _, hg, _⟩
  · rw [h1] at hk; cases hk
  · rw [e1] at hk
    cases hk
    exact hG _ hm _ _ hg rfl

/-- The objects that were read, in their row. -/
def Vo (ros : List Im.RO) (u : Value) (w : World) : Prop := ∃ es, Es ros es w ∧ w.ownsRow 0 58 5 u ros.length (flatE es)

theorem Vo.st {ros : List Im.RO} {u : Value} {w1 w2 : World} {G : List Nat} (h : Vo ros u w1) (t : Kg.Touch G w1 w2) (hG : ∀ k, k ∈ G → ∀ cs t', w1.heap[k]? = some (.cells cs t' (0, 0)) → t' ∉ [3, 26, 58]) : Vo ros u w2 := by
  obtain ⟨es, h1, h2⟩ := h
  exact ⟨es, h1.st t (fun k hk cs t' hc => by have := hG k hk cs t' hc; simp at this; exact ⟨this.1, this.2.1⟩), row_st5 h2 t (fun k hk cs t' hc => by have := hG k hk cs t' hc; simp at this; exact this.2.2)⟩

theorem Vt.st {ts : List (List (List Nat))} {u : Value} {w1 w2 : World} {G : List Nat} (h : Vt ts u w1) (t : Kg.Touch G w1 w2) (hG : ∀ k, k ∈ G → ∀ cs t', w1.heap[k]? = some (.cells cs t' (0, 0)) → t' ∉ [3, 25, 33]) : Vt ts u w2 := by
  obtain ⟨us, h1, h2, h3⟩ := h
  exact ⟨us, h1, row_st h2 t (fun k hk cs t' hc e => hG k hk cs t' hc (by simp [e])), fun j a y ha hy => Vf.st a y w1 w2 G (h3 j a y ha hy) t (fun k hk cs t' hc e => hG k hk cs t' hc (by simp at e ⊢; rcases e with e | e <;> simp [e]))⟩

theorem growO_enters : ∀ args w, (callFunc 65 args).run Tryz.prog w = .ok (.enter 65 args) w := enters_of Tryz.func65 (by kernel_rfl) rfl

abbrev gr6 (v0 v1 v2 v4 : Value) (n : Int) : Array Value := #[v0, v1, v2, .slice none 0 0, v4, .int .u64 n]

set_option maxHeartbeats 4000000 in
/-- All parts of a graph are read. -/
theorem rd_top {w : World} {n0 R p B g c c1 c2 c3 lo : Nat} {u v : Value} {bs : List Nat} (h : Rdr w n0 R v bs p) (hby : ∀ x, x ∈ bs → x < 256) (hB : w.heap[B]? = some (.cells (gr6 (.slice none 0 0) (.slice none 0 0) (.slice none 0 0) (.slice none 0 0) 0) 28 (0, 0))) (hn : n0 ≤ B) (hBR : B ≠ R) (hb : Gpp lo w B g u c c1 c2 c3) (hRlo : R < lo) (hBlo : B < lo) :
    Calls Tryz.prog 38 #[.pointer (some ⟨R, 0, none⟩), .iface 108 (.slice (some ⟨g, 0, none⟩) 5 5)] w fun e w' => Kg.Touch [R, B] w w' ∧ match Im.ngP bs p with
      | .ok (y, r) => e = .returned (.tuple #[]) ∧ Rdr w' n0 R v bs r ∧ ∃ vo vs vh vq, w'.heap[B]? = some (.cells (gr6 vo vs vh vq ((0 + (y.1 : Int)) % 18446744073709551616)) 28 (0, 0)) ∧ Vo y.2.1 vo w' ∧ Vt y.2.2.1 vs w' ∧ Vh y.2.2.2.1 vh w' ∧ Vi y.2.2.2.2 vq w'
      | .error (pl, k) => e = .panicked (thrown (pl : Int) (k : Int)) := by
  obtain ⟨d, d2, hu, b1, b2, b3, b4, b5, b6⟩ := hb.u
  have hgl := hb.gl
  have hBl := Kg.heap_lt hB
  let N : Nat → Int := fun a => (((0 : Nat) : Int) + (a : Int)) % 18446744073709551616
  let J : Nat → World → Prop := fun k w' => Kg.Touch [R, B] w w' ∧ match k with
    | 0 => Rdr w' n0 R v bs p ∧ w'.heap[B]? = some (.cells (gr6 (.slice none 0 0) (.slice none 0 0) (.slice none 0 0) (.slice none 0 0) 0) 28 (0, 0))
    | 1 => ∃ a r, Im.number bs p = .ok (a, r) ∧ Rdr w' n0 R v bs r ∧ w'.heap[B]? = some (.cells (gr6 (.slice none 0 0) (.slice none 0 0) (.slice none 0 0) (.slice none 0 0) (N a)) 28 (0, 0))
    | 2 => ∃ a r1 ro r vo, Im.number bs p = .ok (a, r1) ∧ Im.listP bs (Im.roP bs) r1 = .ok (ro, r) ∧ Rdr w' n0 R v bs r ∧ w'.heap[B]? = some (.cells (gr6 vo (.slice none 0 0) (.slice none 0 0) (.slice none 0 0) (N a)) 28 (0, 0)) ∧ Vo ro vo w'
    | 3 => ∃ a r1 ro r2 ts r vo vs, Im.number bs p = .ok (a, r1) ∧ Im.listP bs (Im.roP bs) r1 = .ok (ro, r2) ∧ Im.listP bs (Im.listP bs (Im.listP bs (Im.number bs))) r2 = .ok (ts, r) ∧ Rdr w' n0 R v bs r ∧ w'.heap[B]? = some (.cells (gr6 vo vs (.slice none 0 0) (.slice none 0 0) (N a)) 28 (0, 0)) ∧ Vo ro vo w' ∧ Vt ts vs w'
    | 4 => ∃ a r1 ro r2 ts r3 hs r vo vs vh, Im.number bs p = .ok (a, r1) ∧ Im.listP bs (Im.roP bs) r1 = .ok (ro, r2) ∧ Im.listP bs (Im.listP bs (Im.listP bs (Im.number bs))) r2 = .ok (ts, r3) ∧ Im.listP bs (Im.number bs) r3 = .ok (hs, r) ∧ Rdr w' n0 R v bs r ∧ w'.heap[B]? = some (.cells (gr6 vo vs vh (.slice none 0 0) (N a)) 28 (0, 0)) ∧ Vo ro vo w' ∧ Vt ts vs w' ∧ Vh hs vh w'
    | _ => ∃ a r1 ro r2 ts r3 hs r4 qu r vo vs vh vq, Im.number bs p = .ok (a, r1) ∧ Im.listP bs (Im.roP bs) r1 = .ok (ro, r2) ∧ Im.listP bs (Im.listP bs (Im.listP bs (Im.number bs))) r2 = .ok (ts, r3) ∧ Im.listP bs (Im.number bs) r3 = .ok (hs, r4) ∧ Im.listP bs (Im.number bs) r4 = .ok (qu, r) ∧ Rdr w' n0 R v bs r ∧ w'.heap[B]? = some (.cells (gr6 vo vs vh vq (N a)) 28 (0, 0)) ∧ Vo ro vo w' ∧ Vt ts vs w' ∧ Vh hs vh w' ∧ Vi qu vq w'
  let E : List PanicEntry → World → Prop := fun ch w' => Kg.Touch [R, B] w w' ∧ ∃ pl k, Im.ngP bs p = .error (pl, k) ∧ ch = thrown (pl : Int) (k : Int)
  have blk : ∀ {w' : World} {k : Nat}, Kg.Touch [R, B] w w' → lo ≤ k → k < w.heap.size → w'.heap[k]? = w.heap[k]? := fun t hk hl => t.block _ hl (by simp; omega)
  have G := rd_group (R := R) (g := g) (cap := 5) (vs := [.iface 103 (.agg #[.pointer (some ⟨B, 5, none⟩), .int .u64 ((0 : Nat) : Int)]), lpart ((0 : Nat) : Int) 51 65 c c1, lpart ((0 : Nat) : Int) 54 68 c c2, lpart ((0 : Nat) : Int) 57 71 c c3, u]) J E (by simp) (by simp) ?_ ?_ w ⟨Kg.Touch.refl _ _, h, hB⟩
  · refine G.mono ?_
    rintro e w' (⟨rfl, t, a, r1, ro, r2, ts, r3, hs, r4, qu, r, vo, vs, vh, vq, e1, e2, e3, e4, e5, hr, hc, g1, g2, g3, g4⟩ | ⟨ch, rfl, t, pl, k, he, rfl⟩)
    · refine ⟨t, ?_⟩
      have : Im.ngP bs p = .ok ((a, ro, ts, hs, qu), r) := pairP_ok e1 (pairP_ok e2 (pairP_ok e3 (pairP_ok e4 e5)))
      rw [this]
      exact ⟨rfl, hr, vo, vs, vh, vq, hc, g1, g2, g3, g4⟩
    · refine ⟨t, ?_⟩
      rw [he]
  · intro i x w' hx hJ
    rw [Kg.heap_cell ((blk hJ.1 hgl (Kg.heap_lt hb.g)).trans hb.g) i, ← hx]
    simp
  · intro i x w' hx hJ
    have fin : ∀ {α : Type} {o : Nat} {cs : Array Value} {e : Ending} {w'' : World} {q : Nat} (f : Im.Ps α) (V : α → Value → World → Prop), Kg.Touch [R, B] w w' → Cans n0 R v bs B o 28 cs w' w'' (f q) e V → (∀ pl k, f q = .error (pl, k) → Im.ngP bs p = .error (pl, k)) → (∀ y r, f q = .ok (y, r) → Rdr w'' n0 R v bs r → (∃ u, w''.heap[B]? = some (.cells (cs.setIfInBounds o u) 28 (0, 0)) ∧ V y u w'') → Kg.Touch [R, B] w w'' → Kg.Touch [R, B] w' w'' → J (i + 1) w'') → RetOr (J (i + 1)) E e w'' := by
      intro α o cs e w'' q f V T0 hC hE hO
      obtain ⟨t1, h1⟩ := hC
      have T := T0.trans t1
      rcases hf : f q with ⟨pl, k⟩ | ⟨y, r⟩
      · rw [hf] at h1
        exact .inr ⟨_, h1, T, pl, k, hE pl k hf, rfl⟩
      · rw [hf] at h1
        exact .inl ⟨h1.1, hO y r hf h1.2.1 h1.2.2 T t1⟩
    have ty : ∀ {w' : World} {r : Nat} {cs : Array Value}, Rdr w' n0 R v bs r → w'.heap[B]? = some (.cells cs 28 (0, 0)) → ∀ k, k ∈ [R, B] → ∀ cs' t', w'.heap[k]? = some (.cells cs' t' (0, 0)) → t' = 70 ∨ t' = 28 := fun hr hc k hk cs' t' hk' => by
      simp only [List.mem_cons, List.not_mem_nil, or_false] at hk
      rcases hk with rfl | rfl
      · rw [hr.b] at hk'
        cases hk'
        exact .inl rfl
      · rw [hc] at hk'
        cases hk'
        exact .inr rfl
    match i, hx, hJ with
    | 0, hx, hJ =>
      simp at hx
      subst hx
      obtain ⟨T, hr, hc⟩ := hJ
      refine (rd_serial (a := 0) hr hby hc rfl hn hBR).mono ?_
      intro e w'' hC
      refine fin (Im.number bs) _ T hC (fun pl k hf => pairP_err1 hf) (fun y r hf hr2 ⟨u', hc2, hu2⟩ T2 _ => ?_)
      subst hu2
      exact ⟨T2, y, r, hf, hr2, hc2⟩
    | 1, hx, hJ =>
      simp at hx
      subst hx
      obtain ⟨T, a, r, e1, hr, hc⟩ := hJ
      have hsz := T.size
      have hl1 := hb.cl
      have hl2 := hb.l1
      have hg1 := hb.cg
      have hg2 := hb.g1
      refine (rd_objs hr hby hc rfl hn hBR (by omega) (by omega) (by omega) (by omega) (by omega) (by omega) ((cell_blk (blk T hb.cg hb.cl) 0).trans hb.cc) ((cell_blk (blk T hb.g1 hb.l1) 0).trans hb.k1) growO_enters).mono ?_
      intro e w'' hC
      refine fin (Im.listP bs (Im.roP bs)) _ T hC (fun pl k hf => pairP_err2 e1 (pairP_err1 hf)) (fun y r' hf hr2 ⟨u', hc2, es, q1, q2⟩ T2 _ => ?_)
      exact ⟨T2, a, r, y, r', u', e1, hf, hr2, hc2, es, q1, Kg.row_base q2 (Nat.zero_le _)⟩
    | 2, hx, hJ =>
      simp at hx
      subst hx
      obtain ⟨T, a, r1, ro, r, vo, e1, e2, hr, hc, q1⟩ := hJ
      have hsz := T.size
      have hl1 := hb.cl
      have hl2 := hb.l2
      have hg1 := hb.cg
      have hg2 := hb.g2
      refine (rd_slots hr hby hc rfl hn hBR (by omega) (by omega) (by omega) (by omega) (by omega) (by omega) ((cell_blk (blk T hb.cg hb.cl) 0).trans hb.cc) ((cell_blk (blk T hb.g2 hb.l2) 0).trans hb.k2)).mono ?_
      intro e w'' hC
      refine fin (Im.listP bs (Im.listP bs (Im.listP bs (Im.number bs)))) _ T hC (fun pl k hf => pairP_err2 e1 (pairP_err2 e2 (pairP_err1 hf))) (fun y r' hf hr2 ⟨u', hc2, hu2⟩ T2 t2 => ?_)
      exact ⟨T2, a, r1, ro, r, y, r', vo, u', e1, e2, hf, hr2, hc2, q1.st t2 (fun k hk cs' t' hk' => by rcases ty hr hc k hk cs' t' hk' with e | e <;> subst e <;> decide), hu2⟩
    | 3, hx, hJ =>
      simp at hx
      subst hx
      obtain ⟨T, a, r1, ro, r2, ts, r, vo, vs, e1, e2, e3, hr, hc, q1, q2⟩ := hJ
      have hsz := T.size
      have hl1 := hb.cl
      have hl2 := hb.l3
      have hg1 := hb.cg
      have hg2 := hb.g3
      refine (rd_hands hr hby hc rfl hn hBR (by omega) (by omega) (by omega) (by omega) (by omega) (by omega) ((cell_blk (blk T hb.cg hb.cl) 0).trans hb.cc) ((cell_blk (blk T hb.g3 hb.l3) 0).trans hb.k3)).mono ?_
      intro e w'' hC
      refine fin (Im.listP bs (Im.number bs)) _ T hC (fun pl k hf => pairP_err2 e1 (pairP_err2 e2 (pairP_err2 e3 (pairP_err1 hf)))) (fun y r' hf hr2 ⟨u', hc2, hu2⟩ T2 t2 => ?_)
      exact ⟨T2, a, r1, ro, r2, ts, r, y, r', vo, vs, u', e1, e2, e3, hf, hr2, hc2, q1.st t2 (fun k hk cs' t' hk' => by rcases ty hr hc k hk cs' t' hk' with e | e <;> subst e <;> decide), q2.st t2 (fun k hk cs' t' hk' => by rcases ty hr hc k hk cs' t' hk' with e | e <;> subst e <;> decide), hu2⟩
    | 4, hx, hJ =>
      simp at hx
      subst hx
      obtain ⟨T, a, r1, ro, r2, ts, r3, hs, r, vo, vs, vh, e1, e2, e3, e4, hr, hc, q1, q2, q3⟩ := hJ
      have hsz := T.size
      rw [hu]
      refine (rd_ints (c := d) (c2 := d2) hr hby hc rfl hn hBR (by decide) (by omega) (by omega) (by omega) (by omega) (by omega) (by omega) ((cell_blk (blk T b1 b2) 0).trans b5) ((cell_blk (blk T b3 b4) 0).trans b6)).mono ?_
      intro e w'' hC
      refine fin (Im.listP bs (Im.number bs)) _ T hC (fun pl k hf => pairP_err2 e1 (pairP_err2 e2 (pairP_err2 e3 (pairP_err2 e4 hf)))) (fun y r' hf hr2 ⟨u', hc2, hu2⟩ T2 t2 => ?_)
      refine ⟨T2, a, r1, ro, r2, ts, r3, hs, r, y, r', vo, vs, vh, u', e1, e2, e3, e4, hf, hr2, hc2, q1.st t2 (fun k hk cs' t' hk' => by rcases ty hr hc k hk cs' t' hk' with e | e <;> subst e <;> decide), q2.st t2 (fun k hk cs' t' hk' => by rcases ty hr hc k hk cs' t' hk' with e | e <;> subst e <;> decide), row_st q3 t2 (fun k hk cs' t' hk' => by rcases ty hr hc k hk cs' t' hk' with e | e <;> subst e <;> decide), hu2.1⟩
    | k + 5, hx, hJ => simp at hx

end Go.Proofs.YtblbiikfipcbcaaGreatDoor

/-
  Images, the reader: its beginning and its end.
-/
set_option linter.unusedVariables false
set_option maxRecDepth 20000
namespace Go.Proofs.YtblbiikfipcbcaaGreatDoor
open Go.RowKit Go.Shelf

theorem str_inj {l m : List Nat} (hl : ∀ x, x ∈ l → x < 256) (hm : ∀ x, x ∈ m → x < 256) (h : strOfNums (l.map Int.ofNat) = strOfNums (m.map Int.ofNat)) : l = m := by
  have h1 : (l.map Int.ofNat).map (fun n => UInt8.ofNat n.toNat) = (m.map Int.ofNat).map (fun n => UInt8.ofNat n.toNat) := by
    have := congrArg (fun s => s.data.toList) h
    simpa [strOfNums_data] using this
  have h2 : ∀ a : List Nat, (∀ x, x ∈ a → x < 256) → ((a.map Int.ofNat).map (fun n => UInt8.ofNat n.toNat)).map UInt8.toNat = a := fun a ha => by
    rw [List.map_map, List.map_map]
    conv => rhs; rw [← List.map_id a]
    refine List.map_congr_left fun x hx => ?_
    have := ha x hx
    simp [UInt8.toNat_ofNat_of_lt' this]
  have := congrArg (List.map UInt8.toNat) h1
  rwa [h2 l hl, h2 m hm] at this

/-- So many bytes from place p on, as a text. -/
theorem Rdr.text {w : World} {n0 R p k q off cap r : Nat} {bs : List Nat} (h : Rdr w n0 R (.slice (some ⟨q, off, none⟩) bs.length cap) bs r) (hp : p + k ≤ bs.length) (c : Nat) : (convert 22 9 (.slice (some ⟨q, off + p, none⟩) k c)).run Tryz.prog w = .ok (.string (strOfNums (((bs.drop p).take k).map Int.ofNat))) w := by
  have hl : ((bs.drop p).take k).length = k := by simp; omega
  refine run_convert_bytes_arg w _ _ Tryz.underlying22 Tryz.underlying5 q (off + p) k c (((bs.drop p).take k).map Int.ofNat) (by rw [List.length_map, hl]) (fun i hi => ?_) _ Tryz.underlying9
  obtain ⟨a, cap', e, -, hel⟩ := h.l.byte
  cases e
  have h1 : bs[p + i]? = some (bs[p + i]'(by omega)) := List.getElem?_eq_getElem (by omega)
  obtain ⟨q', off', e', -, hc⟩ := hel (p + i) _ h1
  cases e'
  rw [Nat.add_assoc, hc, List.getD_eq_getElem?_getD, List.getElem?_map, List.getElem?_take, if_pos hi, List.getElem?_drop, h1]
  rfl

theorem beq_yes (x y : ByteArray) : (x.toList == y.toList) = true ↔ x = y := by
  rw [beq_iff_eq, ByteArray.toList_eq, ByteArray.toList_eq]
  exact ⟨fun h => ByteArray.ext (Array.toList_inj.mp h), fun h => by rw [h]⟩

theorem beq_no (x y : ByteArray) : (x.toList == y.toList) = false ↔ ¬ x = y := by
  rw [← beq_yes]
  exact Bool.eq_false_iff

theorem magic_str : (⟨#[77, 68, 73, 49]⟩ : ByteArray) = strOfNums (Im.magic.map Int.ofNat) := by decide

set_option maxHeartbeats 4000000 in
/-- The first four bytes. -/
theorem rbegin_any {w : World} {n0 R : Nat} {v : Value} {bs : List Nat} (h : Rdr w n0 R v bs 0) (hby : ∀ x, x ∈ bs → x < 256) :
    Calls Tryz.prog 37 #[.pointer (some ⟨R, 0, none⟩)] w fun e w' => Kg.Touch [R] w w' ∧ ((bs.length < 4 ∧ e = .panicked (thrown bs.length 160)) ∨ (4 ≤ bs.length ∧ bs.take 4 ≠ Im.magic ∧ e = .panicked (thrown 0 161)) ∨ (4 ≤ bs.length ∧ bs.take 4 = Im.magic ∧ e = .returned (.tuple #[]) ∧ Rdr w' n0 R v bs 4)) := by
  have hC := take_any h 4 (by omega)
  go_enter Tryz.func37, Tryz.ntmps37
  go_wp2_with fail
  refine hC.mono ?_
  rintro e w1 ⟨t1, h1⟩
  have HT : Hid (Kg.Touch [R] w w1) := t1
  clear hC t1
  rcases h1 with ⟨hlt, rfl⟩ | ⟨hle, q, off, cap, rfl, rfl, hr⟩
  · exact ⟨rfl, HT.out, .inl ⟨by omega, rfl⟩⟩
  · have hcv := hr.text (p := 0) (k := 4) (by omega) (cap - 0)
    have Hr : Hid (Rdr w1 n0 R (.slice (some ⟨q, off, none⟩) bs.length cap) bs 4) := hr
    clear h hr
    rw [List.drop_zero, Nat.add_zero, Nat.sub_zero] at hcv
    by_cases hm : bs.take 4 = Im.magic
    · rw [hm, ← magic_str] at hcv
      go_wp2
      refine bodyPost_end (v := .tuple #[]) ?_ rfl ⟨HT.out, .inr (.inr ⟨by omega, hm, rfl, Hr.out⟩)⟩
      simp [results, Tryz.results37, go_sem]
    · have hne : ¬ strOfNums ((bs.take 4).map Int.ofNat) = (⟨#[77, 68, 73, 49]⟩ : ByteArray) := fun e => hm (str_inj (fun x hx => hby x (List.mem_of_mem_take hx)) (by simp [Im.magic]) (e.trans magic_str))
      have hne : ((strOfNums ((bs.take 4).map Int.ofNat)).toList == [77, 68, 73, 49]) = false := by
        have := (beq_no _ (⟨#[77, 68, 73, 49]⟩ : ByteArray)).2 hne
        rwa [ByteArray.toList_eq ⟨#[77, 68, 73, 49]⟩] at this
      generalize strOfNums ((bs.take 4).map Int.ofNat) = s at hcv hne
      have hG := give_any 0 161 w1
      go_wp2_with fail
      refine hG.mono ?_
      rintro e w2 ⟨rfl, rfl⟩
      exact ⟨rfl, HT.out, .inr (.inl ⟨by omega, hm, rfl⟩)⟩

set_option maxHeartbeats 8000000 in
/-- The checksum, behind which there is nothing. -/
theorem rend_any {w : World} {n0 R p : Nat} {v : Value} {bs : List Nat} (h : Rdr w n0 R v bs p) (hby : ∀ x, x ∈ bs → x < 256) (hR : n0 ≤ R) :
    Calls Tryz.prog 40 #[.pointer (some ⟨R, 0, none⟩)] w fun e w' => Kg.Touch [R] w w' ∧ ((bs.length < p + 4 ∧ e = .panicked (thrown bs.length 160)) ∨ (p + 4 ≤ bs.length ∧ (bs.drop p).take 4 ≠ Im.le4 (Im.fnv (bs.take p)) ∧ e = .panicked (thrown p 163)) ∨ (p + 4 < bs.length ∧ (bs.drop p).take 4 = Im.le4 (Im.fnv (bs.take p)) ∧ e = .panicked (thrown ((p + 4 : Nat) : Int) 162)) ∨ (p + 4 = bs.length ∧ (bs.drop p).take 4 = Im.le4 (Im.fnv (bs.take p)) ∧ e = .returned (.tuple #[]) ∧ Rdr w' n0 R v bs (p + 4))) := by
  have H : Hid (Rdr w n0 R v bs p) := h
  have c0 := (Kg.heap_cell h.b 0).trans (show _ = some v from rfl)
  have c1 := (Kg.heap_cell h.b 1).trans (show _ = some (.int .i64 (p : Int)) from rfl)
  obtain ⟨a, cap, rfl, hcap, hel⟩ := h.l.byte
  have hle := h.le
  have hn := h.n
  have hC := sealed_any n0 w (by have := Kg.heap_lt h.b; omega) (.slice a p cap) (bs.take p) ?_ (fun x hx => hby x (List.mem_of_mem_take hx)) (by simp; omega)
  · clear hel h
    go_enter Tryz.func40, Tryz.ntmps40
    go_wp2_with fail
    refine hC.mono ?_
    rintro e w1 ⟨rfl, b1⟩
    clear hC
    have H1 := H.out.below b1
    go_upto_region 2 with fail
    have hx := heap_alloc_new w1 (.cells (sumCells (Im.fnv (bs.take p))) 119 (0, 0))
    have b2 : Below w1.heap.size w1 (w1.alloc (.cells (sumCells (Im.fnv (bs.take p))) 119)) := Below.alloc (Below.refl _ _) (Nat.le_refl _) _
    have H2 := (H1.below b2.drew)
    have hR1 := Kg.heap_lt H1.b
    have B12 : Hid (Below w.heap.size w (w1.alloc (.cells (sumCells (Im.fnv (bs.take p))) 119)).drew) := b1.trans (b2.mono b1.size).drew
    have hs : Hid ((w1.alloc (.cells (sumCells (Im.fnv (bs.take p))) 119)).heap.size = w1.heap.size + 1) := by show _ = _; simp
    clear b1 b2 H1 c0 c1 H
    generalize w1.alloc (.cells (sumCells (Im.fnv (bs.take p))) 119) = W at *
    generalize w1.heap.size = A at *
    generalize hfn : Im.fnv (bs.take p) = s at *
    have hxd : W.drew.heap[A]? = some (.cells (sumCells s) 119 (0, 0)) := hx
    have hC := take_any H2 4 (by omega)
    clear hx
    have hconv : ∀ wx : World, wx.heap[A]? = some (.cells (sumCells s) 119 (0, 0)) → (convert 22 9 (.slice (some ⟨A, 0, none⟩) 4 4)).run Tryz.prog wx = .ok (.string (strOfNums ((Im.le4 s).map Int.ofNat))) wx := fun wx hS => by
      have := run_convert_bytes_arg wx _ _ Tryz.underlying22 Tryz.underlying5 A 0 4 4 ((Im.le4 s).map Int.ofNat) (by simp [Im.le4]) (fun i hi => ?_) _ Tryz.underlying9
      · exact this
      · rw [Nat.zero_add, Kg.heap_cell hS i]
        rcases i with _ | _ | _ | _ | i
        · simp [Im.le4, sumCells]
        · simp [Im.le4, sumCells]
        · simp [Im.le4, sumCells]
        · simp [Im.le4, sumCells]
        · omega
    refine wp_region_held_drew (S := fun w' => w'.heap[A]? = some (.cells (sumCells s) 119 (0, 0))) Kg.mixed hxd (fun hHeld => ?_)
    refine wpAnyH_take (i := 0) (v := (.pointer (some ⟨R, 0, none⟩))) rfl (by kernel_rfl) (by kernel_rfl) (by kernel_rfl) (fun _ _ _ h => h) (Or.inl ⟨by rfl, fun wx hSw => ?_⟩) (by assumption) ?_
    · go_simp
    change wpAnyH _ _ _ _ _ _ _ (Act.put _ (some 15) (.pointer (some ⟨R, 0, none⟩))) _
    simp only [Act.put, List.setIfInBounds_toArray, List.set_cons_zero, List.set_cons_succ]
    refine wpAnyH_take (i := 3) (v := (.slice (some ⟨A, 0, none⟩) 4 4)) rfl (by kernel_rfl) (by kernel_rfl) (by kernel_rfl) (fun _ _ _ h => h) (Or.inl ⟨by rfl, fun wx hSw => ?_⟩) (by assumption) ?_
    · go_simp
    change wpAnyH _ _ _ _ _ _ _ (Act.put _ (some 18) (.slice (some ⟨A, 0, none⟩) 4 4)) _
    simp only [Act.put, List.setIfInBounds_toArray, List.set_cons_zero, List.set_cons_succ]
    refine wpAnyH_take (i := 4) (v := (.string (strOfNums ((Im.le4 s).map Int.ofNat)))) rfl (by kernel_rfl) (by kernel_rfl) (by kernel_rfl) (fun _ _ _ h => h) (Or.inl ⟨by rfl, fun wx hSw => ?_⟩) (by assumption) ?_
    · have := hconv wx hSw
      go_simp
    change wpAnyH _ _ _ _ _ _ _ (Act.put _ (some 19) (.string (strOfNums ((Im.le4 s).map Int.ofNat)))) _
    simp only [Act.put, List.setIfInBounds_toArray, List.set_cons_zero, List.set_cons_succ]
    refine wpAnyH_ready (rs := [1]) (by kernel_rfl) (by simp) (AllReadyH.cons rfl (fun K hK => ?_) AllReadyH.nil)
    go_simp
    refine hC.mono ?_
    rintro e w2 ⟨t1, h1⟩
    clear hC
    have T1 : Hid (Kg.Touch [R] w w2) := (Kg.Touch.of_below B12.out _).trans t1
    rcases h1 with ⟨hlt, rfl⟩ | ⟨hle4, q, off, cap', e', rfl, hr⟩
    · exact ⟨rfl, T1.out, .inl ⟨hlt, rfl⟩⟩
    · cases e'
      have hcv := hr.text (p := p) (k := 4) (by omega) (cap - p)
      have hx2 := (t1.block A (by have := hs.out; show A < W.heap.size; omega) (by simp; omega)).trans hxd
      refine hK.out _ _ hx2 (fun hHeld3 => ?_)
      clear hK K hHeld hxd hconv H2 B12 hs t1
      have hHeld := hHeld3
      refine wpAnyH_ready (rs := [2]) (by kernel_rfl) (by simp) (AllReadyH.cons rfl (fun K hK => ?_) AllReadyH.nil)
      go_simp
      refine hK.out _ _ hx2 (fun hHeld4 => ?_)
      clear hK K hHeld hHeld3
      have hHeld := hHeld4
      have Hr : Hid (Rdr w2 n0 R (.slice (some ⟨q, off, none⟩) bs.length cap) bs (p + 4)) := hr
      refine wpAnyH_ready (rs := [5]) (by kernel_rfl) (by simp) (AllReadyH.cons rfl (fun K hK => ?_) AllReadyH.nil)
      go_simp
      refine hK.out _ _ hx2 (fun hHeld5 => ?_)
      clear hK K hHeld hHeld4 hHeld5 hcv
      refine wpAnyH_done (by kernel_rfl) ?_ _
      have hle4b : ∀ x, x ∈ Im.le4 s → x < 256 := fun x hx => by
        simp only [Im.le4, List.mem_cons, List.not_mem_nil, or_false] at hx
        omega
      have em : ((bs.map Int.ofNat).drop p).take 4 = ((bs.drop p).take 4).map Int.ofNat := by rw [List.map_take, List.map_drop]
      have eb : ((strOfNums (((bs.map Int.ofNat).drop p).take 4)).toList == (strOfNums ((Im.le4 s).map Int.ofNat)).toList) = decide ((bs.drop p).take 4 = Im.le4 s) := by
        rw [em]
        by_cases hm : (bs.drop p).take 4 = Im.le4 s
        · rw [hm]; simp
        · rw [decide_eq_false hm]
          exact (beq_no _ _).2 fun e => hm (str_inj (fun x hx => hby x (List.mem_of_mem_drop (List.mem_of_mem_take hx))) hle4b e)
      rw [eb]
      clear eb em hle4b hx2
      generalize strOfNums (((bs.map Int.ofNat).drop p).take 4) = s1
      generalize strOfNums ((Im.le4 s).map Int.ofNat) = s2
      have hL := left_any hr
      have c1 := (Kg.heap_cell hr.b 1).trans (show _ = some (.int .i64 ((p + 4 : Nat) : Int)) from rfl)
      clear hr
      by_cases hm : (bs.drop p).take 4 = Im.le4 s
      · rw [decide_eq_true hm]
        have hm' : Hid ((bs.drop p).take 4 = Im.le4 (Im.fnv (bs.take p))) := by show _ = _; rw [hfn]; exact hm
        clear hm
        go_wp2_with fail
        refine hL.mono ?_
        rintro e w3 ⟨rfl, b3⟩
        clear hL
        have T3 : Hid (Kg.Touch [R] w w3) := T1.out.trans (Kg.Touch.of_below b3 _)
        have hr3 := Hr.out.below b3
        have c1 := (Kg.heap_cell hr3.b 1).trans (show _ = some (.int .i64 ((p + 4 : Nat) : Int)) from rfl)
        have Hr3 : Hid (Rdr w3 n0 R (.slice (some ⟨q, off, none⟩) bs.length cap) bs (p + 4)) := hr3
        clear hr3 Hr T1 b3
        by_cases hg : p + 4 < bs.length
        · have hd : decide ((0 : Int) < (bs.length : Int) - ((p + 4 : Nat) : Int)) = true := decide_eq_true (by omega)
          have hG := give_any ((p + 4 : Nat) : Int) 162 w3
          generalize (bs.length : Int) - ((p + 4 : Nat) : Int) = L at hd
          go_wp2_with fail
          refine hG.mono ?_
          rintro e w4 ⟨rfl, rfl⟩
          exact ⟨rfl, T3.out, .inr (.inr (.inl ⟨hg, hm'.out, rfl⟩))⟩
        · have hd : decide ((0 : Int) < (bs.length : Int) - ((p + 4 : Nat) : Int)) = false := decide_eq_false (by omega)
          have hq : Hid (p + 4 = bs.length) := by show _ = _; omega
          clear hg
          generalize (bs.length : Int) - ((p + 4 : Nat) : Int) = L at hd
          go_wp2
          refine bodyPost_end (v := .tuple #[]) ?_ rfl ⟨T3.out, .inr (.inr (.inr ⟨hq.out, hm'.out, rfl, Hr3.out⟩))⟩
          simp [results, Tryz.results40, go_sem]
      · rw [decide_eq_false hm]
        have hG := give_any p 163 w2
        clear hL c1
        go_wp2_with fail
        refine hG.mono ?_
        rintro e w3 ⟨rfl, rfl⟩
        exact ⟨rfl, T1.out, .inr (.inl ⟨by omega, by rw [hfn]; exact hm, rfl⟩)⟩
  · refine ⟨a, cap, by simp; omega, by simp; omega, fun f z hz => ?_⟩
    rw [List.getElem?_map, List.getElem?_take] at hz
    split at hz
    · obtain ⟨x, hx, rfl⟩ := Option.map_eq_some_iff.1 hz
      exact hel f x hx
    · simp at hz

end Go.Proofs.YtblbiikfipcbcaaGreatDoor

