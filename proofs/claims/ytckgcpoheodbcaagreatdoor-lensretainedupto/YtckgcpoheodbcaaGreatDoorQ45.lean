import Derived.Test.YtckgcpoheodbcaaGreatDoorQ44
set_option linter.unusedVariables false
set_option maxHeartbeats 8000000
set_option maxRecDepth 20000
namespace Go.Proofs.YtckgcpoheodbcaaGreatDoor
open Go.RowKit Go.Shelf
theorem roomHJ_rg {w : World} {R : Nat} {N : Nat → Nat} {S : RS} (H : Rg w R N S) :
  Calls Tryz.prog 32 #[.pointer (some ⟨R, 0, none⟩)] w fun e w' => e = .returned (.bool true) ∧ Below w.heap.size w w' := by
 have x0 : (w.alloc (.cells #[.int .u64 0, .int .i64 (-7701), .int .i64 0, .slice none 0 0, .slice none 0 0, .int .u64 0, .int .i64 (-7702), .int .i64 0, .slice none 0 0, .slice none 0 0] 61)).cell? ⟨w.heap.size, 0, none⟩ = some (.int .u64 0) := cell_of_row _ _ 0 _ _ _ (heap_alloc_new w _)
 have x1 : (w.alloc (.cells #[.int .u64 0, .int .i64 (-7701), .int .i64 0, .slice none 0 0, .slice none 0 0, .int .u64 0, .int .i64 (-7702), .int .i64 0, .slice none 0 0, .slice none 0 0] 61)).cell? ⟨w.heap.size, 1, none⟩ = some (.int .i64 (-7701)) := cell_of_row _ _ 1 _ _ _ (heap_alloc_new w _)
 have x2 : (w.alloc (.cells #[.int .u64 0, .int .i64 (-7701), .int .i64 0, .slice none 0 0, .slice none 0 0, .int .u64 0, .int .i64 (-7702), .int .i64 0, .slice none 0 0, .slice none 0 0] 61)).cell? ⟨w.heap.size, 2, none⟩ = some (.int .i64 0) := cell_of_row _ _ 2 _ _ _ (heap_alloc_new w _)
 have x3 : (w.alloc (.cells #[.int .u64 0, .int .i64 (-7701), .int .i64 0, .slice none 0 0, .slice none 0 0, .int .u64 0, .int .i64 (-7702), .int .i64 0, .slice none 0 0, .slice none 0 0] 61)).cell? ⟨w.heap.size, 3, none⟩ = some (.slice none 0 0) := cell_of_row _ _ 3 _ _ _ (heap_alloc_new w _)
 have x4 : (w.alloc (.cells #[.int .u64 0, .int .i64 (-7701), .int .i64 0, .slice none 0 0, .slice none 0 0, .int .u64 0, .int .i64 (-7702), .int .i64 0, .slice none 0 0, .slice none 0 0] 61)).cell? ⟨w.heap.size, 4, none⟩ = some (.slice none 0 0) := cell_of_row _ _ 4 _ _ _ (heap_alloc_new w _)
 have x5 : (w.alloc (.cells #[.int .u64 0, .int .i64 (-7701), .int .i64 0, .slice none 0 0, .slice none 0 0, .int .u64 0, .int .i64 (-7702), .int .i64 0, .slice none 0 0, .slice none 0 0] 61)).cell? ⟨w.heap.size, 5, none⟩ = some (.int .u64 0) := cell_of_row _ _ 5 _ _ _ (heap_alloc_new w _)
 have x6 : (w.alloc (.cells #[.int .u64 0, .int .i64 (-7701), .int .i64 0, .slice none 0 0, .slice none 0 0, .int .u64 0, .int .i64 (-7702), .int .i64 0, .slice none 0 0, .slice none 0 0] 61)).cell? ⟨w.heap.size, 6, none⟩ = some (.int .i64 (-7702)) := cell_of_row _ _ 6 _ _ _ (heap_alloc_new w _)
 have x7 : (w.alloc (.cells #[.int .u64 0, .int .i64 (-7701), .int .i64 0, .slice none 0 0, .slice none 0 0, .int .u64 0, .int .i64 (-7702), .int .i64 0, .slice none 0 0, .slice none 0 0] 61)).cell? ⟨w.heap.size, 7, none⟩ = some (.int .i64 0) := cell_of_row _ _ 7 _ _ _ (heap_alloc_new w _)
 have x8 : (w.alloc (.cells #[.int .u64 0, .int .i64 (-7701), .int .i64 0, .slice none 0 0, .slice none 0 0, .int .u64 0, .int .i64 (-7702), .int .i64 0, .slice none 0 0, .slice none 0 0] 61)).cell? ⟨w.heap.size, 8, none⟩ = some (.slice none 0 0) := cell_of_row _ _ 8 _ _ _ (heap_alloc_new w _)
 have x9 : (w.alloc (.cells #[.int .u64 0, .int .i64 (-7701), .int .i64 0, .slice none 0 0, .slice none 0 0, .int .u64 0, .int .i64 (-7702), .int .i64 0, .slice none 0 0, .slice none 0 0] 61)).cell? ⟨w.heap.size, 9, none⟩ = some (.slice none 0 0) := cell_of_row _ _ 9 _ _ _ (heap_alloc_new w _)
 have b1 : Below w.heap.size w (w.alloc (.cells #[.int .u64 0, .int .i64 (-7701), .int .i64 0, .slice none 0 0, .slice none 0 0, .int .u64 0, .int .i64 (-7702), .int .i64 0, .slice none 0 0, .slice none 0 0] 61)) := Below.alloc (Below.refl _ _) (Nat.le_refl _) _
 have H1 := H.keep (Keeps.below b1)
 have hel : S.E7.length ≤ 1000000000 := Nat.le_trans (by unfold RS.tot; omega) H.t
 have k1 : (w.alloc (.cells #[.int .u64 0, .int .i64 (-7701), .int .i64 0, .slice none 0 0, .slice none 0 0, .int .u64 0, .int .i64 (-7702), .int .i64 0, .slice none 0 0, .slice none 0 0] 61)).cell? ⟨R, 7, none⟩ = some S.v7 := H1.c 7 (by omega)
 have Hb1 : Hid (Below w.heap.size w (w.alloc (.cells #[.int .u64 0, .int .i64 (-7701), .int .i64 0, .slice none 0 0, .slice none 0 0, .int .u64 0, .int .i64 (-7702), .int .i64 0, .slice none 0 0, .slice none 0 0] 61))) := b1
 have HR1 : Hid (Rg (w.alloc (.cells #[.int .u64 0, .int .i64 (-7701), .int .i64 0, .slice none 0 0, .slice none 0 0, .int .u64 0, .int .i64 (-7702), .int .i64 0, .slice none 0 0, .slice none 0 0] 61)) R N S) := H1
 obtain ⟨a, cap, ev, -⟩ := H1.w7
 rw [ev] at k1
 have Hev : Hid (S.v7 = .slice a S.E7.length cap) := ev
 clear H b1 H1 ev
 go_enter Tryz.func32, Tryz.ntmps32
 go_upto_region 2 with fail
 generalize w.alloc (.cells #[.int .u64 0, .int .i64 (-7701), .int .i64 0, .slice none 0 0, .slice none 0 0, .int .u64 0, .int .i64 (-7702), .int .i64 0, .slice none 0 0, .slice none 0 0] 61) = w1 at *
 have HM : Hid (∀ w', Below w1.heap.size w1 w' → (w'.cell? ⟨R, 7, none⟩ = some (.slice a S.E7.length cap) ∧ w'.cell? ⟨w.heap.size, 0, none⟩ = some (.int .u64 0) ∧ w'.cell? ⟨w.heap.size, 1, none⟩ = some (.int .i64 (-7701)) ∧ w'.cell? ⟨w.heap.size, 2, none⟩ = some (.int .i64 0) ∧ w'.cell? ⟨w.heap.size, 3, none⟩ = some (.slice none 0 0) ∧ w'.cell? ⟨w.heap.size, 4, none⟩ = some (.slice none 0 0) ∧ w'.cell? ⟨w.heap.size, 5, none⟩ = some (.int .u64 0) ∧ w'.cell? ⟨w.heap.size, 6, none⟩ = some (.int .i64 (-7702)) ∧ w'.cell? ⟨w.heap.size, 7, none⟩ = some (.int .i64 0) ∧ w'.cell? ⟨w.heap.size, 8, none⟩ = some (.slice none 0 0) ∧ w'.cell? ⟨w.heap.size, 9, none⟩ = some (.slice none 0 0)) ∧ Rg w' R N S) := fun w' b' => ⟨⟨(b'.cell (p := ⟨R, 7, none⟩) HR1.out.l).trans k1, (b'.cell (p := ⟨w.heap.size, 0, none⟩) (World.block_lt_of_cell? _ _ x0)).trans x0, (b'.cell (p := ⟨w.heap.size, 1, none⟩) (World.block_lt_of_cell? _ _ x1)).trans x1, (b'.cell (p := ⟨w.heap.size, 2, none⟩) (World.block_lt_of_cell? _ _ x2)).trans x2, (b'.cell (p := ⟨w.heap.size, 3, none⟩) (World.block_lt_of_cell? _ _ x3)).trans x3, (b'.cell (p := ⟨w.heap.size, 4, none⟩) (World.block_lt_of_cell? _ _ x4)).trans x4, (b'.cell (p := ⟨w.heap.size, 5, none⟩) (World.block_lt_of_cell? _ _ x5)).trans x5, (b'.cell (p := ⟨w.heap.size, 6, none⟩) (World.block_lt_of_cell? _ _ x6)).trans x6, (b'.cell (p := ⟨w.heap.size, 7, none⟩) (World.block_lt_of_cell? _ _ x7)).trans x7, (b'.cell (p := ⟨w.heap.size, 8, none⟩) (World.block_lt_of_cell? _ _ x8)).trans x8, (b'.cell (p := ⟨w.heap.size, 9, none⟩) (World.block_lt_of_cell? _ _ x9)).trans x9⟩, HR1.out.keep (Keeps.below b')⟩
 clear k1 x0 x1 x2 x3 x4 x5 x6 x7 x8 x9
 go_wp2
 go_loopw [4] (fun v4 wr => ∃ k : Nat, k ≤ S.E7.length ∧ v4 = .int .i64 k ∧ Hid (Below w1.heap.size w1 wr)) (fun v4 _ => S.E7.length - (intOf v4).toNat)
 case atStart => exact ⟨0, by omega, rfl, Below.refl _ _⟩
 case round =>
  obtain ⟨k, hk, rfl, Hw⟩ := hrel
  obtain ⟨⟨k1, x0, x1, x2, x3, x4, x5, x6, x7, x8, x9⟩, hRr⟩ := HM.out _ Hw.out
  have HRr : Hid (Rg wr R N S) := hRr
  clear hRr
  by_cases hk0 : k < S.E7.length
  ·have hki : (k : Int) < (S.E7.length : Int) := by omega
   have hu : S.E7[k]? = some (S.E7[k]'hk0) := List.getElem?_eq_getElem hk0
   generalize S.E7[k]'hk0 = u at hu
   obtain ⟨a', cap', ev', hrw⟩ := HRr.out.w7
   rw [Hev.out] at ev'
   cases ev'
   obtain ⟨q, rfl, hq, hz, hcu⟩ := hrw k u hu
   obtain ⟨b, c, n, rfl, hNb, -, hbl, hnb, hmk⟩ := HRr.out.m7 u (List.mem_of_getElem? hu)
   have Hmk : Hid (∀ w', Below wr.heap.size wr w' → w'.cell? ⟨q, k, none⟩ = some (.slice (some ⟨b, 0, none⟩) (n + 8) c) ∧ ∀ j, j < 8 → ∀ i, i < 5 → w'.cell? ⟨b, (n + j) * 5 + i, none⟩ = (mob j)[i]?) := fun w' b' => ⟨(b'.cell (p := ⟨q, k, none⟩) hq).trans hcu, fun j hj i hi => (b'.cell (p := ⟨b, (n + j) * 5 + i, none⟩) hbl).trans (hmk j hj i hi)⟩
   have hnn : n ≤ 1000000000000 := by omega
   clear hmk hnb hNb
   obtain ⟨wA, hwA⟩ : ∃ wA, wA = wr := ⟨_, rfl⟩
   subst hwA
   clear hrw hu
   go_wp2
   go_loopw [6] (fun v6 w3 => ∃ j : Nat, j ≤ 8 ∧ v6 = .int .i64 j ∧ Hid (Below wA.heap.size wA w3)) (fun v6 _ => 8 - (intOf v6).toNat)
   case atStart => exact ⟨0, by omega, rfl, Below.refl _ _⟩
   case round =>
    obtain ⟨j, hj, rfl, Hw3⟩ := hrel
    have HB3 : Hid (Below w1.heap.size w1 wr) := Hw.out.trans (Hw3.out.mono Hw.out.size)
    clear k1 x0 x1 x2 x3 x4 x5 x6 x7 x8 x9 HRr hcu
    obtain ⟨⟨k1, x0, x1, x2, x3, x4, x5, x6, x7, x8, x9⟩, hRr⟩ := HM.out _ HB3.out
    obtain ⟨hcu, hmk⟩ := Hmk.out _ Hw3.out
    by_cases hj0 : j < 8
    ·have hjI : (j : Int) < 8 := by omega
     have c0 : wr.cell? ⟨b, (n + j) * 5, none⟩ = some (.int .u64 0) := hmk j hj0 0 (by omega)
     have c1 : wr.cell? ⟨b, (n + j) * 5 + 1, none⟩ = some (.int .i64 (mrk j)) := hmk j hj0 1 (by omega)
     have c2 : wr.cell? ⟨b, (n + j) * 5 + 2, none⟩ = some (.int .i64 0) := hmk j hj0 2 (by omega)
     have c3 : wr.cell? ⟨b, (n + j) * 5 + 3, none⟩ = some (.slice none 0 0) := hmk j hj0 3 (by omega)
     have c4 : wr.cell? ⟨b, (n + j) * 5 + 4, none⟩ = some (.slice none 0 0) := hmk j hj0 4 (by omega)
     have hMl : w.heap.size < wr.heap.size := World.block_lt_of_cell? _ _ x0
     clear hmk
     by_cases hpar : j % 2 = 0
     ·rw [mrk0 hpar] at c1
      have hp2 : Int.tmod (j : Int) 2 = 0 := by rw [Int.tmod_eq_emod_of_nonneg (by omega)]; omega
      go_wp2
      exact ⟨⟨j + 1, by omega, by go_num, (Hw3.out.alloc Hw3.out.size _).alloc ((Hw3.out.alloc Hw3.out.size _).size) _⟩, by simp [intOf]; omega⟩
     ·rw [mrk1 hpar] at c1
      have hp2 : Int.tmod (j : Int) 2 = 1 := by rw [Int.tmod_eq_emod_of_nonneg (by omega)]; omega
      go_wp2
      exact ⟨⟨j + 1, by omega, by go_num, (Hw3.out.alloc Hw3.out.size _).alloc ((Hw3.out.alloc Hw3.out.size _).size) _⟩, by simp [intOf]; omega⟩
    ·have hjI : ¬ (j : Int) < 8 := by omega
     go_wp2
     exact ⟨⟨k + 1, by omega, by go_num, Hw.out.trans (Hw3.out.mono Hw.out.size)⟩, by simp [intOf]; omega⟩
  ·have hk1 : ¬ (k : Int) < (S.E7.length : Int) := by omega
   go_wp2
   go_ret
   exact ⟨rfl, Hb1.out.trans (Hw.out.mono Hb1.out.size)⟩
theorem roomHold_rg {w : World} {R : Nat} {N : Nat → Nat} {S : RS} (H : Rg w R N S) :
  Calls Tryz.prog 10 #[.pointer (some ⟨R, 0, none⟩)] w fun e w' => e = .returned (.bool true) ∧ Below w.heap.size w w' := by
 have HB0 : Hid (Below w.heap.size w w) := Below.refl _ _
 have HR : Hid (∀ w', Below w.heap.size w w' → Rg w' R N S) := fun w' b' => H.keep (Keeps.below b')
 clear H
 go_enter Tryz.func10, Tryz.ntmps10
 have hc0 := roomHB_nil (w := w) (R := R) ((HR.out w HB0.out).c 0 (by omega))
 go_wp2_with fail
 refine hc0.mono ?_
 rintro e w1 ⟨rfl, b1⟩
 have HB1 : Hid (Below w.heap.size w w1) := HB0.out.trans (b1.mono HB0.out.size)
 clear hc0 b1
 have hc1 := roomHI_rg (HR.out w1 HB1.out)
 go_wp2_with fail
 refine hc1.mono ?_
 rintro e w2 ⟨rfl, b2⟩
 have HB2 : Hid (Below w.heap.size w w2) := HB1.out.trans (b2.mono HB1.out.size)
 clear hc1 b2
 have hc2 := roomHW_rg (HR.out w2 HB2.out)
 go_wp2_with fail
 refine hc2.mono ?_
 rintro e w3 ⟨rfl, b3⟩
 have HB3 : Hid (Below w.heap.size w w3) := HB2.out.trans (b3.mono HB2.out.size)
 clear hc2 b3
 have hc3 := roomHT_nil (w := w3) (R := R) ((HR.out w3 HB3.out).c 3 (by omega))
 go_wp2_with fail
 refine hc3.mono ?_
 rintro e w4 ⟨rfl, b4⟩
 have HB4 : Hid (Below w.heap.size w w4) := HB3.out.trans (b4.mono HB3.out.size)
 clear hc3 b4
 have hc4 := roomHO_nil (w := w4) (R := R) ((HR.out w4 HB4.out).c 4 (by omega))
 go_wp2_with fail
 refine hc4.mono ?_
 rintro e w5 ⟨rfl, b5⟩
 have HB5 : Hid (Below w.heap.size w w5) := HB4.out.trans (b5.mono HB4.out.size)
 clear hc4 b5
 have hc5 := roomHL_rg (HR.out w5 HB5.out)
 go_wp2_with fail
 refine hc5.mono ?_
 rintro e w6 ⟨rfl, b6⟩
 have HB6 : Hid (Below w.heap.size w w6) := HB5.out.trans (b6.mono HB5.out.size)
 clear hc5 b6
 have hc6 := roomHF_rg (HR.out w6 HB6.out)
 go_wp2_with fail
 refine hc6.mono ?_
 rintro e w7 ⟨rfl, b7⟩
 have HB7 : Hid (Below w.heap.size w w7) := HB6.out.trans (b7.mono HB6.out.size)
 clear hc6 b7
 have hc7 := roomHJ_rg (HR.out w7 HB7.out)
 go_wp2_with fail
 refine hc7.mono ?_
 rintro e w8 ⟨rfl, b8⟩
 have HB8 : Hid (Below w.heap.size w w8) := HB7.out.trans (b8.mono HB7.out.size)
 clear hc7 b8
 go_wp2
 go_ret
 exact ⟨rfl, HB8.out⟩
def osum (l : List OL) : Nat := (l.map (fun x => x.o.ps.length + x.o.rs.length)).sum
def tsum (l : List (Value × List (Value × List Int))) : Nat := (l.map (fun x => x.2.length + fsum (x.2.map (·.2)))).sum
def szs (os : List OL) (ts : List (Value × List (Value × List Int))) (g : Im.Gr) : Nat := os.length + ts.length + g.hs.length + g.rg.length + g.qu.length
def inR (k : IntKind) (z : Int) : Prop := (k = .i64 → InI z) ∧ (k = .u64 → 0 ≤ z ∧ z < 18446744073709551616)
structure Shp (w w' : World) : Prop where
 s : w.heap.size ≤ w'.heap.size
 c : ∀ b f, b < w.heap.size → w'.cell? ⟨b, f, none⟩ = w.cell? ⟨b, f, none⟩ ∨ ∃ k z z', w.cell? ⟨b, f, none⟩ = some (.int k z) ∧ w'.cell? ⟨b, f, none⟩ = some (.int k z') ∧ inR k z'
 fr : ∀ b f, b < w.heap.size → w'.frozen? ⟨b, f, none⟩ = w.frozen? ⟨b, f, none⟩
theorem Shp.set {w : World} {b f : Nat} {k : IntKind} {z z' : Int} (h : w.cell? ⟨b, f, none⟩ = some (.int k z)) (hr : inR k z') : Shp w (w.setCell ⟨b, f, none⟩ (.int k z')) := by
 refine ⟨by rw [World.size_setCell]; exact Nat.le_refl _, fun b' f' hb => ?_, fun b' f' _ => World.frozen?_setCell _ _ _ _⟩
 by_cases e : b' = b ∧ f' = f
 ·obtain ⟨rfl, rfl⟩ := e
  exact .inr ⟨k, z, z', h, World.cell?_setCell_same _ _ _ h, hr⟩
 ·exact .inl (World.cell?_setCell_other _ _ _ _ (fun h9 => e (by cases h9; exact ⟨rfl, rfl⟩)))
theorem list_choice {α : Type} (P : Nat → α → Prop) : ∀ n, (∀ i, i < n → ∃ x, P i x) → ∃ L : List α, L.length = n ∧ ∀ (i : Nat) x, L[i]? = some x → P i x
 | 0, _ => ⟨[], rfl, fun i x h => by simp at h⟩
 | n + 1, h => by
  obtain ⟨L, hl, hL⟩ := list_choice P n (fun i hi => h i (by omega))
  obtain ⟨x, hx⟩ := h n (Nat.lt_succ_self _)
  refine ⟨L ++ [x], by rw [List.length_append, hl]; rfl, fun i y hy => ?_⟩
  by_cases e : i < n
  ·rw [List.getElem?_append_left (by omega)] at hy
   exact hL i y hy
  ·have hi := (List.getElem?_eq_some_iff.1 hy).1
   rw [List.length_append, hl] at hi
   simp at hi
   have e2 : i = n := by omega
   subst e2
   rw [List.getElem?_append_right (by omega), hl, Nat.sub_self] at hy
   simp at hy
   rw [← hy]
   exact hx
theorem map_eq {α β : Type} {L L' : List α} (f : α → β) (hl : L'.length = L.length) (h : ∀ (i : Nat) x x', L[i]? = some x → L'[i]? = some x' → f x' = f x) : L'.map f = L.map f := by
 apply List.ext_getElem?
 intro i
 rw [List.getElem?_map, List.getElem?_map]
 by_cases hi : i < L.length
 ·have h1 : L[i]? = some (L[i]'hi) := List.getElem?_eq_getElem hi
  have h2 : L'[i]? = some (L'[i]'(by omega)) := List.getElem?_eq_getElem (by omega)
  rw [h1, h2, Option.map_some, Option.map_some, h i _ _ h1 h2]
 ·rw [List.getElem?_eq_none (by omega), List.getElem?_eq_none (by omega)]
theorem Shp.int {w w' : World} (h : Shp w w') {b f : Nat} {k : IntKind} {z : Int} (hb : b < w.heap.size) (hc : w.cell? ⟨b, f, none⟩ = some (.int k z)) : ∃ z', w'.cell? ⟨b, f, none⟩ = some (.int k z') ∧ (z' = z ∨ inR k z') := by
 rcases h.c b f hb with h1 | ⟨k', y, z', h1, h2, h3⟩
 ·exact ⟨z, h1.trans hc, .inl rfl⟩
 ·rw [hc] at h1
  cases h1
  exact ⟨z', h2, .inr h3⟩
theorem Shp.other {w w' : World} (h : Shp w w') {b f : Nat} {v : Value} (hb : b < w.heap.size) (hc : w.cell? ⟨b, f, none⟩ = some v) (hv : ∀ k z, v ≠ .int k z) : w'.cell? ⟨b, f, none⟩ = some v := by
 rcases h.c b f hb with h1 | ⟨k', y, z', h1, h2, h3⟩
 ·exact h1.trans hc
 ·rw [hc] at h1
  cases h1
  exact absurd rfl (hv k' y)
variable {w w' : World} {N : Nat → Nat} {lo : Nat}
theorem Got.shp {b : Nat} {k : IntKind} {v : Value} {xs : List Int} (h : Got w N [] lo b k v xs) (s : Shp w w') : ∃ xs', xs'.length = xs.length ∧ Got w' N [] lo b k v xs' ∧ ∀ z, z ∈ xs' → z ∈ xs ∨ inR k z := by
 obtain ⟨L, hl, hL⟩ := list_choice (fun i z' => w'.cell? ⟨b, i, none⟩ = some (.int k z') ∧ (z' ∈ xs ∨ inR k z')) xs.length (fun i hi => by
  have h1 : xs[i]? = some (xs[i]'hi) := List.getElem?_eq_getElem hi
  obtain ⟨z', h2, h3⟩ := s.int h.lt (h.c i _ h1)
  exact ⟨z', h2, h3.imp (fun e => by rw [e]; exact List.getElem_mem hi) id⟩)
 refine ⟨L, hl, ⟨by rw [hl]; exact h.is, h.lo, Nat.lt_of_lt_of_le h.lt s.s, h.f, by rw [hl]; exact h.n, fun f z hz => (hL f z hz).1, fun f => by rw [s.fr b f h.lt]; exact h.fr f⟩, fun z hz => ?_⟩
 obtain ⟨i, hi⟩ := List.getElem?_of_mem hz
 exact (hL i z hi).2
theorem Got.shpu {b : Nat} {v : Value} {rs : List Nat} (h : Got w N [] lo b .u64 v (rs.map Int.ofNat)) (s : Shp w w') : ∃ rs' : List Nat, rs'.length = rs.length ∧ Got w' N [] lo b .u64 v (rs'.map Int.ofNat) ∧ ((∀ n, n ∈ rs → n < 18446744073709551616) → ∀ n, n ∈ rs' → n < 18446744073709551616) := by
 obtain ⟨xs, h1, h2, h3⟩ := h.shp s
 have hnn : ∀ z, z ∈ xs → 0 ≤ z := fun z hz => by
  rcases h3 z hz with h4 | h4
  ·obtain ⟨r, -, rfl⟩ := List.mem_map.1 h4
   exact Int.natCast_nonneg _
  ·exact (h4.2 rfl).1
 have e : (xs.map Int.toNat).map Int.ofNat = xs := Im.map_ofNat_toNat hnn
 refine ⟨xs.map Int.toNat, by rw [List.length_map, h1, List.length_map], ?_, fun hr n hn => ?_⟩
 ·rw [e]
  exact h2
 ·obtain ⟨z, hz, rfl⟩ := List.mem_map.1 hn
  rcases h3 z hz with h4 | h4
  ·obtain ⟨r, hrm, rfl⟩ := List.mem_map.1 h4
   exact hr r hrm
  ·have := h4.2 rfl
   omega
def obR (o : Im.Ob) : Prop := o.ser < 18446744073709551616 ∧ InI o.kind ∧ InI o.site ∧ ∀ n, n ∈ o.rs → n < 18446744073709551616
theorem GotO.shp {b : Nat} {v : Value} {os : List OL} (h : GotO w N [] lo b v os) (s : Shp w w') (hr : ∀ x, x ∈ os → obR x.o) : ∃ os', os'.length = os.length ∧ GotO w' N [] lo b v os' ∧ (∀ x, x ∈ os' → obR x.o) ∧ osum os' = osum os := by
 obtain ⟨L, hl, hL⟩ := list_choice (fun i (x' : OL) => ((∀ j, j < 5 → w'.cell? ⟨b, i * 5 + j, none⟩ = x'.cells[j]?) ∧ PO lo w' N [] x') ∧ obR x'.o ∧ ∀ x, os[i]? = some x → x'.o.ps.length + x'.o.rs.length = x.o.ps.length + x.o.rs.length) os.length (fun i hi => by
  have h1 : os[i]? = some (os[i]'hi) := List.getElem?_eq_getElem hi
  have hm : os[i]'hi ∈ os := List.getElem_mem hi
  generalize os[i]'hi = x at h1 hm
  obtain ⟨hc, ⟨bp, hp⟩, br, hrr⟩ := h.c i x h1
  have c0 : w.cell? ⟨b, i * 5, none⟩ = some (.int .u64 x.o.ser) := hc 0 (by omega)
  have c1 : w.cell? ⟨b, i * 5 + 1, none⟩ = some (.int .i64 x.o.kind) := hc 1 (by omega)
  have c2 : w.cell? ⟨b, i * 5 + 2, none⟩ = some (.int .i64 x.o.site) := hc 2 (by omega)
  have c3 : w.cell? ⟨b, i * 5 + 3, none⟩ = some x.vp := hc 3 (by omega)
  have c4 : w.cell? ⟨b, i * 5 + 4, none⟩ = some x.vr := hc 4 (by omega)
  obtain ⟨z0, e0, r0⟩ := s.int h.lt c0
  obtain ⟨z1, e1, r1⟩ := s.int h.lt c1
  obtain ⟨z2, e2, r2⟩ := s.int h.lt c2
  have e3 := s.other h.lt c3 (fun k z e => by rw [hp.is] at e; cases e)
  have e4 := s.other h.lt c4 (fun k z e => by rw [hrr.is] at e; cases e)
  obtain ⟨ps, l1, g1, -⟩ := hp.shp s
  obtain ⟨rs, l2, g2, g3⟩ := hrr.shpu s
  have hx := hr x hm
  have q0 : 0 ≤ z0 ∧ z0 < 18446744073709551616 := by
   rcases r0 with e | e
   ·rw [e]; have := hx.1; omega
   ·exact e.2 rfl
  have q1 : InI z1 := by
   rcases r1 with e | e
   ·rw [e]; exact hx.2.1
   ·exact e.1 rfl
  have q2 : InI z2 := by
   rcases r2 with e | e
   ·rw [e]; exact hx.2.2.1
   ·exact e.1 rfl
  refine ⟨⟨⟨z0.toNat, z1, z2, ps, rs⟩, x.vp, x.vr⟩, ⟨fun j hj => ?_, ⟨bp, g1⟩, br, g2⟩, ⟨by show z0.toNat < _; omega, q1, q2, g3 hx.2.2.2⟩, fun y hy => ?_⟩
  ·match j, hj with
   | 0, _ => rw [Nat.add_zero, e0]; show some _ = some (Value.int .u64 ((z0.toNat : Nat) : Int)); rw [show ((z0.toNat : Nat) : Int) = z0 by omega]
   | 1, _ => exact e1
   | 2, _ => exact e2
   | 3, _ => exact e3
   | 4, _ => exact e4
  ·rw [h1] at hy
   cases hy
   show ps.length + rs.length = _
   rw [l1, l2])
 refine ⟨L, hl, ⟨by rw [hl]; exact h.is, h.l, Nat.lt_of_lt_of_le h.lt s.s, h.f, by rw [hl]; exact h.n, fun i x hx => (hL i x hx).1, fun f => by rw [s.fr b f h.lt]; exact h.fr f⟩, fun x hx => ?_, ?_⟩
 ·obtain ⟨i, hi⟩ := List.getElem?_of_mem hx
  exact (hL i x hi).2.1
 ·unfold osum
  rw [map_eq (fun x : OL => x.o.ps.length + x.o.rs.length) hl (fun i x x' h1 h2 => (hL i x' h2).2.2 x h1)]
theorem GotS.shp {b : Nat} {v : Value} {fs : List (Value × List Int)} (h : GotS (PI lo) w N [] lo b v fs) (s : Shp w w') : ∃ fs', fs'.length = fs.length ∧ GotS (PI lo) w' N [] lo b v fs' ∧ fsum (fs'.map (·.2)) = fsum (fs.map (·.2)) := by
 obtain ⟨L, hl, hL⟩ := list_choice (fun i (x' : Value × List Int) => (w'.cell? ⟨b, i, none⟩ = some x'.1 ∧ PI lo w' N [] x'.1 x'.2) ∧ ∀ x, fs[i]? = some x → x'.2.length = x.2.length) fs.length (fun i hi => by
  have h1 : fs[i]? = some (fs[i]'hi) := List.getElem?_eq_getElem hi
  generalize fs[i]'hi = x at h1
  obtain ⟨hc, bp, hp⟩ := h.c i x h1
  have e3 := s.other h.lt hc (fun k z e => by rw [hp.is] at e; cases e)
  obtain ⟨ps, l1, g1, -⟩ := hp.shp s
  exact ⟨(x.1, ps), ⟨e3, bp, g1⟩, fun y hy => by rw [h1] at hy; cases hy; exact l1⟩)
 refine ⟨L, hl, ⟨by rw [hl]; exact h.is, h.lo, Nat.lt_of_lt_of_le h.lt s.s, h.f, by rw [hl]; exact h.n, fun i x hx => (hL i x hx).1⟩, ?_⟩
 unfold fsum
 rw [List.map_map, List.map_map, map_eq (List.length ∘ fun x : Value × List Int => x.2) hl (fun i x x' h1 h2 => (hL i x' h2).2 x h1)]
theorem PT.shp {v : Value} {ts : List (Value × List (Value × List Int))} (h : PT lo w N [] v ts) (s : Shp w w') : ∃ ts', ts'.length = ts.length ∧ PT lo w' N [] v ts' ∧ tsum ts' = tsum ts := by
 obtain ⟨b, h⟩ := h
 obtain ⟨L, hl, hL⟩ := list_choice (fun i (x' : Value × List (Value × List Int)) => (w'.cell? ⟨b, i, none⟩ = some x'.1 ∧ PL lo w' N [] x'.1 x'.2) ∧ ∀ x, ts[i]? = some x → x'.2.length + fsum (x'.2.map (·.2)) = x.2.length + fsum (x.2.map (·.2))) ts.length (fun i hi => by
  have h1 : ts[i]? = some (ts[i]'hi) := List.getElem?_eq_getElem hi
  generalize ts[i]'hi = x at h1
  obtain ⟨hc, bp, hp⟩ := h.c i x h1
  have e3 := s.other h.lt hc (fun k z e => by rw [hp.is] at e; cases e)
  obtain ⟨ps, l1, g1, l2⟩ := hp.shp s
  exact ⟨(x.1, ps), ⟨e3, bp, g1⟩, fun y hy => by rw [h1] at hy; cases hy; show ps.length + fsum (ps.map (·.2)) = _; rw [l1, l2]⟩)
 refine ⟨L, hl, ⟨b, by rw [hl]; exact h.is, h.lo, Nat.lt_of_lt_of_le h.lt s.s, h.f, by rw [hl]; exact h.n, fun i x hx => (hL i x hx).1⟩, ?_⟩
 unfold tsum
 rw [map_eq (fun x : Value × List (Value × List Int) => x.2.length + fsum (x.2.map (·.2))) hl (fun i x x' h1 h2 => (hL i x' h2).2 x h1)]
def gsz (os : List OL) (ts : List (Value × List (Value × List Int))) (g : Im.Gr) : Nat := szs os ts g + osum os + tsum ts
theorem Lent.shp {vo vs vh vr vq : Value} {os : List OL} {ts : List (Value × List (Value × List Int))} {g : Im.Gr} (h : Lent w N [] lo vo vs vh vr vq os ts g) (s : Shp w w') (hr : ∀ x, x ∈ os → obR x.o) : ∃ os' ts' g', Lent w' N [] lo vo vs vh vr vq os' ts' g' ∧ (∀ x, x ∈ os' → obR x.o) ∧ gsz os' ts' g' = gsz os ts g ∧ g'.next = g.next ∧ os'.length = os.length ∧ ts'.length = ts.length ∧ g'.hs.length = g.hs.length := by
 obtain ⟨⟨b, h1⟩, h2, ⟨bh, h3⟩, ⟨br, h4⟩, ⟨bq, h5⟩, h6, h7⟩ := h
 obtain ⟨os', l1, g1, r1, e1⟩ := h1.shp s hr
 obtain ⟨ts', l2, g2, e2⟩ := h2.shp s
 obtain ⟨hs', l3, g3, -⟩ := h3.shp s
 obtain ⟨rg', l4, g4, -⟩ := h4.shp s
 obtain ⟨qu', l5, g5, -⟩ := h5.shp s
 refine ⟨os', ts', ⟨g.next, os'.map (·.o), ts'.map (fun t => t.2.map (·.2)), hs', rg', qu'⟩, ⟨⟨b, g1⟩, g2, ⟨bh, g3⟩, ⟨br, g4⟩, ⟨bq, g5⟩, rfl, rfl⟩, r1, ?_, rfl, l1, l2, l3⟩
 unfold gsz szs
 simp only
 rw [l1, l2, l3, l4, l5, e1, e2]
end Go.Proofs.YtckgcpoheodbcaaGreatDoor
