import Derived.Test.YtckgcpoheodbcaaGreatDoorQ43
set_option linter.unusedVariables false
set_option maxHeartbeats 8000000
set_option maxRecDepth 20000
namespace Go.Proofs.YtckgcpoheodbcaaGreatDoor
open Go.RowKit Go.Shelf
theorem roomHB_nil {w : World} {R : Nat} (h : w.cell? ⟨R, 0, none⟩ = some (.slice none 0 0)) :
  Calls Tryz.prog 25 #[.pointer (some ⟨R, 0, none⟩)] w fun e w' => e = .returned (.bool true) ∧ Below w.heap.size w w' := by
 have hR := World.block_lt_of_cell? _ _ h
 simp only at hR
 go_enter Tryz.func25, Tryz.ntmps25
 go_wp2
 refine wp_loop_rounds 1 ?_
 rw [rounds_succ]
 go_wp2
 go_returns
 exact ⟨rfl, by go_grown⟩
theorem roomHT_nil {w : World} {R : Nat} (h : w.cell? ⟨R, 3, none⟩ = some (.slice none 0 0)) :
  Calls Tryz.prog 28 #[.pointer (some ⟨R, 0, none⟩)] w fun e w' => e = .returned (.bool true) ∧ Below w.heap.size w w' := by
 have hR := World.block_lt_of_cell? _ _ h
 simp only at hR
 go_enter Tryz.func28, Tryz.ntmps28
 go_wp2
 refine wp_loop_rounds 1 ?_
 rw [rounds_succ]
 go_wp2
 go_returns
 exact ⟨rfl, by go_grown⟩
theorem roomHO_nil {w : World} {R : Nat} (h : w.cell? ⟨R, 4, none⟩ = some (.slice none 0 0)) :
  Calls Tryz.prog 29 #[.pointer (some ⟨R, 0, none⟩)] w fun e w' => e = .returned (.bool true) ∧ Below w.heap.size w w' := by
 have hR := World.block_lt_of_cell? _ _ h
 simp only at hR
 go_enter Tryz.func29, Tryz.ntmps29
 go_wp2
 refine wp_loop_rounds 1 ?_
 rw [rounds_succ]
 go_wp2
 go_returns
 exact ⟨rfl, by go_grown⟩
def Rw (w : World) (N : Nat → Nat) (E : List Value) (v : Value) : Prop :=
 ∃ a cap, v = .slice a E.length cap ∧ ∀ (i : Nat) u, E[i]? = some u → ∃ g, a = some ⟨g, 0, none⟩ ∧ g < w.heap.size ∧ N g = 0 ∧ w.cell? ⟨g, i, none⟩ = some u
structure Rg (w : World) (R : Nat) (N : Nat → Nat) (S : RS) : Prop where
 l : R < w.heap.size
 z : N R = 0
 c : ∀ j, j < 8 → w.cell? ⟨R, j, none⟩ = (rmc S.v1 S.v2 S.v5 S.v6 S.v7)[j]?
 w1 : Rw w N S.E1 S.v1
 w2 : Rw w N S.E2 S.v2
 w5 : Rw w N S.E5 S.v5
 w6 : Rw w N S.E6 S.v6
 w7 : Rw w N S.E7 S.v7
 m1 : ∀ v, v ∈ S.E1 → Mk1 w N [] v
 m2 : ∀ v, v ∈ S.E2 → Mk2 w N [] v
 m5 : ∀ v, v ∈ S.E5 → Mk5 w N [] v
 m6 : ∀ v, v ∈ S.E6 → Mk6 w N [] v
 m7 : ∀ v, v ∈ S.E7 → Mk7 w N [] v
 t : S.tot ≤ 1000000000
theorem rw_of {w : World} {N : Nat → Nat} {n1 e : Nat} {v : Value} {E : List Value} (h : w.ownsRow n1 e 1 v E.length E) (hz : ∀ k, v.ownBlock = some k → N k = 0) : Rw w N E v := by
 obtain ⟨a, cap, h1, h2, h3⟩ := row_at (Kg.row_base h (Nat.zero_le _)) (by decide)
 refine ⟨a, cap, h1, fun i u hu => ?_⟩
 obtain ⟨g, h4, h5, h6⟩ := h3 i u hu
 exact ⟨g, h4, h5, hz g (by rw [h1, h4]; rfl), h6⟩
theorem Bd.rg {w : World} {n1 R : Nat} {N : Nat → Nat} {S : RS} (h : Bd w n1 R N S []) (ht : S.tot ≤ 1000000000) : Rg w R N S := by
 have s : Stp w w ([] ++ S.F R) [] N N := ⟨Kg.Touch.refl _ _, fun k hk => by simp at hk, fun _ _ _ => rfl⟩
 have z : ∀ k, k ∈ S.F R → N k = 0 := fun k hk => h.z k (List.mem_append_right _ hk)
 have f : ∀ k, (k = R ∨ S.v1.ownBlock = some k ∨ S.v2.ownBlock = some k ∨ S.v5.ownBlock = some k ∨ S.v6.ownBlock = some k ∨ S.v7.ownBlock = some k) → N k = 0 := fun k hk => z k (by simp only [RS.F, List.mem_cons, List.mem_append, Option.mem_toList]; exact hk)
 exact ⟨Kg.heap_lt h.r, f R (.inl rfl), fun j _ => Kg.heap_cell h.r j, rw_of h.o1 (fun k hk => f k (.inr (.inl hk))), rw_of h.o2 (fun k hk => f k (.inr (.inr (.inl hk)))), rw_of h.o5 (fun k hk => f k (.inr (.inr (.inr (.inl hk))))), rw_of h.o6 (fun k hk => f k (.inr (.inr (.inr (.inr (.inl hk)))))), rw_of h.o7 (fun k hk => f k (.inr (.inr (.inr (.inr (.inr hk)))))),
  fun v hv => (h.m1 v hv).stp s, fun v hv => (h.m2 v hv).stp s, fun v hv => (h.m5 v hv).stp s, fun v hv => (h.m6 v hv).stp s, fun v hv => (h.m7 v hv).stp s, ht⟩
structure Keeps (w w' : World) (N : Nat → Nat) : Prop where
 s : w.heap.size ≤ w'.heap.size
 c : ∀ b f, b < w.heap.size → N b ≤ f → w'.cell? ⟨b, f, none⟩ = w.cell? ⟨b, f, none⟩
theorem Keeps.below {w w' : World} {N : Nat → Nat} (h : Below w.heap.size w w') : Keeps w w' N := ⟨h.size, fun b f hb _ => h.cell (p := ⟨b, f, none⟩) hb⟩
theorem Keeps.trans {w w' w'' : World} {N : Nat → Nat} (h : Keeps w w' N) (k : Keeps w' w'' N) : Keeps w w'' N := ⟨Nat.le_trans h.s k.s, fun b f hb hf => (k.c b f (Nat.lt_of_lt_of_le hb h.s) hf).trans (h.c b f hb hf)⟩
section
variable {w w' : World} {N : Nat → Nat} {v : Value}
theorem Mk1.keep (h : Mk1 w N [] v) (k : Keeps w w' N) : Mk1 w' N [] v := by
 obtain ⟨b, c, h1, h2, h3, hb, h4⟩ := h
 exact ⟨b, c, h1, h2, Nat.lt_of_lt_of_le h3 k.s, hb, fun j hj => by rw [k.c b _ h3 (by omega)]; exact h4 j hj⟩
theorem Mk2.keep (h : Mk2 w N [] v) (k : Keeps w w' N) : Mk2 w' N [] v := by
 obtain ⟨b, c, h1, h2, h3, hb, h4⟩ := h
 exact ⟨b, c, h1, h2, Nat.lt_of_lt_of_le h3 k.s, hb, fun j hj => by rw [k.c b _ h3 (by omega)]; exact h4 j hj⟩
theorem Ml.keep {j : Nat} (h : Ml w N [] j v) (k : Keeps w w' N) : Ml w' N [] j v := by
 obtain ⟨b, c, h1, h2, h3, h4, h5⟩ := h
 exact ⟨b, c, h1, h2, Nat.lt_of_lt_of_le h3 k.s, h4, by rw [k.c b _ h3 (by omega)]; exact h5⟩
theorem Mm.keep {j : Nat} (h : Mm w N [] j v) (k : Keeps w w' N) : Mm w' N [] j v := by
 obtain ⟨b, c, h1, h2, h3, h4, u, h5, h6⟩ := h
 exact ⟨b, c, h1, h2, Nat.lt_of_lt_of_le h3 k.s, h4, u, by rw [k.c b _ h3 (by omega)]; exact h5, h6.keep k⟩
theorem Mk5.keep (h : Mk5 w N [] v) (k : Keeps w w' N) : Mk5 w' N [] v := by
 obtain ⟨b, c, h1, h2, h3, hb, h4⟩ := h
 refine ⟨b, c, h1, h2, Nat.lt_of_lt_of_le h3 k.s, hb, fun j hj => ?_⟩
 obtain ⟨u, h5, h6⟩ := h4 j hj
 exact ⟨u, by rw [k.c b _ h3 (by omega)]; exact h5, h6.keep k⟩
theorem Mk6.keep (h : Mk6 w N [] v) (k : Keeps w w' N) : Mk6 w' N [] v := by
 obtain ⟨b, c, h1, h2, h3, hb, h4⟩ := h
 refine ⟨b, c, h1, h2, Nat.lt_of_lt_of_le h3 k.s, hb, fun j hj => ?_⟩
 obtain ⟨u, h5, h6⟩ := h4 j hj
 exact ⟨u, by rw [k.c b _ h3 (by omega)]; exact h5, h6.keep k⟩
theorem Mk7.keep (h : Mk7 w N [] v) (k : Keeps w w' N) : Mk7 w' N [] v := by
 obtain ⟨b, c, n, h1, h0, h2, h3, hb, h4⟩ := h
 exact ⟨b, c, n, h1, h0, h2, Nat.lt_of_lt_of_le h3 k.s, hb, fun j hj i hi => by rw [k.c b _ h3 (by omega)]; exact h4 j hj i hi⟩
theorem Rw.keep {E : List Value} (h : Rw w N E v) (k : Keeps w w' N) : Rw w' N E v := by
 obtain ⟨a, cap, h1, h2⟩ := h
 refine ⟨a, cap, h1, fun i u hu => ?_⟩
 obtain ⟨g, h3, h4, h5, h6⟩ := h2 i u hu
 exact ⟨g, h3, Nat.lt_of_lt_of_le h4 k.s, h5, by rw [k.c g _ h4 (by omega)]; exact h6⟩
end
theorem Rg.keep {w w' : World} {R : Nat} {N : Nat → Nat} {S : RS} (h : Rg w R N S) (k : Keeps w w' N) : Rg w' R N S :=
 ⟨Nat.lt_of_lt_of_le h.l k.s, h.z, fun j hj => by rw [k.c R _ h.l (by rw [h.z]; omega)]; exact h.c j hj, h.w1.keep k, h.w2.keep k, h.w5.keep k, h.w6.keep k, h.w7.keep k, fun v hv => (h.m1 v hv).keep k, fun v hv => (h.m2 v hv).keep k, fun v hv => (h.m5 v hv).keep k, fun v hv => (h.m6 v hv).keep k, fun v hv => (h.m7 v hv).keep k, h.t⟩
theorem mrk0 {j : Nat} (h : j % 2 = 0) : mrk j = -7701 := by unfold mrk; rw [if_pos h]
theorem mrk1 {j : Nat} (h : ¬ j % 2 = 0) : mrk j = -7702 := by unfold mrk; rw [if_neg h]
theorem mru0 {j : Nat} (h : j % 2 = 0) : mru j = 7701 := by unfold mru; rw [if_pos h]
theorem mru1 {j : Nat} (h : ¬ j % 2 = 0) : mru j = 7702 := by unfold mru; rw [if_neg h]
theorem roomHI_rg {w : World} {R : Nat} {N : Nat → Nat} {S : RS} (H : Rg w R N S) :
  Calls Tryz.prog 26 #[.pointer (some ⟨R, 0, none⟩)] w fun e w' => e = .returned (.bool true) ∧ Below w.heap.size w w' := by
 have b1 : Below w.heap.size w (w.alloc (.cells #[.int .i64 (-7701), .int .i64 (-7702)] 3)) := Below.alloc (Below.refl _ _) (Nat.le_refl _) _
 have H1 := H.keep (Keeps.below b1)
 have hel : S.E1.length ≤ 1000000000 := Nat.le_trans (by unfold RS.tot; omega) H.t
 have k1 : (w.alloc (.cells #[.int .i64 (-7701), .int .i64 (-7702)] 3)).cell? ⟨R, 1, none⟩ = some S.v1 := H1.c 1 (by omega)
 have m0 : (w.alloc (.cells #[.int .i64 (-7701), .int .i64 (-7702)] 3)).cell? ⟨w.heap.size, 0, none⟩ = some (.int .i64 (-7701)) := cell_of_row _ _ 0 _ _ _ (heap_alloc_new w _)
 have m1 : (w.alloc (.cells #[.int .i64 (-7701), .int .i64 (-7702)] 3)).cell? ⟨w.heap.size, 1, none⟩ = some (.int .i64 (-7702)) := cell_of_row _ _ 1 _ _ _ (heap_alloc_new w _)
 have Hb1 : Hid (Below w.heap.size w (w.alloc (.cells #[.int .i64 (-7701), .int .i64 (-7702)] 3))) := b1
 have HR1 : Hid (Rg (w.alloc (.cells #[.int .i64 (-7701), .int .i64 (-7702)] 3)) R N S) := H1
 obtain ⟨a, cap, ev, -⟩ := H1.w1
 rw [ev] at k1
 have Hev : Hid (S.v1 = .slice a S.E1.length cap) := ev
 clear H b1 H1 ev
 go_enter Tryz.func26, Tryz.ntmps26
 go_upto_region 2 with fail
 generalize w.alloc (.cells #[.int .i64 (-7701), .int .i64 (-7702)] 3) = w1 at *
 obtain ⟨M, hM⟩ : ∃ M, M = w.heap.size := ⟨_, rfl⟩
 rw [← hM] at m0 m1 ⊢
 clear hM
 go_wp2
 go_loopw [4] (fun v4 wr => ∃ k : Nat, k ≤ S.E1.length ∧ v4 = .int .i64 k ∧ w1 = wr) (fun v4 _ => S.E1.length - (intOf v4).toNat)
 case atStart => exact ⟨0, by omega, rfl, rfl⟩
 case round =>
  obtain ⟨k, hk, rfl, rfl⟩ := hrel
  have HRr := HR1
  by_cases hk0 : k < S.E1.length
  ·have hki : (k : Int) < (S.E1.length : Int) := by omega
   have hu : S.E1[k]? = some (S.E1[k]'hk0) := List.getElem?_eq_getElem hk0
   generalize S.E1[k]'hk0 = u at hu
   obtain ⟨a', cap', ev', hrw⟩ := HRr.out.w1
   rw [Hev.out] at ev'
   cases ev'
   obtain ⟨q, rfl, hq, hz, hcu⟩ := hrw k u hu
   obtain ⟨b, c, rfl, -, hbl, hnb, hmk⟩ := HRr.out.m1 u (List.mem_of_getElem? hu)
   have Hmk : Hid (∀ j, j < 40 → w1.cell? ⟨b, N b + j, none⟩ = some (.int .i64 (mrk j))) := hmk
   generalize N b = n at *
   clear hmk
   clear hrw hu
   go_wp2
   go_loopw [6] (fun v6 w3 => ∃ j : Nat, j ≤ 40 ∧ v6 = .int .i64 j ∧ w1 = w3) (fun v6 _ => 40 - (intOf v6).toNat)
   case atStart => exact ⟨0, by omega, rfl, rfl⟩
   case round =>
    obtain ⟨j, hj, rfl, rfl⟩ := hrel
    skip
    by_cases hj0 : j < 40
    ·have hjI : (j : Int) < 40 := by omega
     have hc := Hmk.out j hj0
     by_cases hpar : j % 2 = 0
     ·rw [mrk0 hpar] at hc
      have hp2 : Int.tmod (j : Int) 2 = 0 := by rw [Int.tmod_eq_emod_of_nonneg (by omega)]; omega
      go_wp2
      exact ⟨⟨j + 1, by omega, by go_num, trivial⟩, by simp [intOf]; omega⟩
     ·rw [mrk1 hpar] at hc
      have hp2 : Int.tmod (j : Int) 2 = 1 := by rw [Int.tmod_eq_emod_of_nonneg (by omega)]; omega
      go_wp2
      exact ⟨⟨j + 1, by omega, by go_num, trivial⟩, by simp [intOf]; omega⟩
    ·have hjI : ¬ (j : Int) < 40 := by omega
     go_wp2
     exact ⟨⟨k + 1, by omega, by go_num, trivial⟩, by simp [intOf]; omega⟩
  ·have hk1 : ¬ (k : Int) < (S.E1.length : Int) := by omega
   go_wp2
   go_ret
   exact ⟨rfl, Hb1.out⟩
theorem roomHW_rg {w : World} {R : Nat} {N : Nat → Nat} {S : RS} (H : Rg w R N S) :
  Calls Tryz.prog 27 #[.pointer (some ⟨R, 0, none⟩)] w fun e w' => e = .returned (.bool true) ∧ Below w.heap.size w w' := by
 have b1 : Below w.heap.size w (w.alloc (.cells #[.int .u64 7701, .int .u64 7702] 25)) := Below.alloc (Below.refl _ _) (Nat.le_refl _) _
 have H1 := H.keep (Keeps.below b1)
 have hel : S.E2.length ≤ 1000000000 := Nat.le_trans (by unfold RS.tot; omega) H.t
 have k1 : (w.alloc (.cells #[.int .u64 7701, .int .u64 7702] 25)).cell? ⟨R, 2, none⟩ = some S.v2 := H1.c 2 (by omega)
 have m0 : (w.alloc (.cells #[.int .u64 7701, .int .u64 7702] 25)).cell? ⟨w.heap.size, 0, none⟩ = some (.int .u64 7701) := cell_of_row _ _ 0 _ _ _ (heap_alloc_new w _)
 have m1 : (w.alloc (.cells #[.int .u64 7701, .int .u64 7702] 25)).cell? ⟨w.heap.size, 1, none⟩ = some (.int .u64 7702) := cell_of_row _ _ 1 _ _ _ (heap_alloc_new w _)
 have Hb1 : Hid (Below w.heap.size w (w.alloc (.cells #[.int .u64 7701, .int .u64 7702] 25))) := b1
 have HR1 : Hid (Rg (w.alloc (.cells #[.int .u64 7701, .int .u64 7702] 25)) R N S) := H1
 obtain ⟨a, cap, ev, -⟩ := H1.w2
 rw [ev] at k1
 have Hev : Hid (S.v2 = .slice a S.E2.length cap) := ev
 clear H b1 H1 ev
 go_enter Tryz.func27, Tryz.ntmps27
 go_upto_region 2 with fail
 generalize w.alloc (.cells #[.int .u64 7701, .int .u64 7702] 25) = w1 at *
 obtain ⟨M, hM⟩ : ∃ M, M = w.heap.size := ⟨_, rfl⟩
 rw [← hM] at m0 m1 ⊢
 clear hM
 go_wp2
 go_loopw [4] (fun v4 wr => ∃ k : Nat, k ≤ S.E2.length ∧ v4 = .int .i64 k ∧ w1 = wr) (fun v4 _ => S.E2.length - (intOf v4).toNat)
 case atStart => exact ⟨0, by omega, rfl, rfl⟩
 case round =>
  obtain ⟨k, hk, rfl, rfl⟩ := hrel
  have HRr := HR1
  by_cases hk0 : k < S.E2.length
  ·have hki : (k : Int) < (S.E2.length : Int) := by omega
   have hu : S.E2[k]? = some (S.E2[k]'hk0) := List.getElem?_eq_getElem hk0
   generalize S.E2[k]'hk0 = u at hu
   obtain ⟨a', cap', ev', hrw⟩ := HRr.out.w2
   rw [Hev.out] at ev'
   cases ev'
   obtain ⟨q, rfl, hq, hz, hcu⟩ := hrw k u hu
   obtain ⟨b, c, rfl, -, hbl, hnb, hmk⟩ := HRr.out.m2 u (List.mem_of_getElem? hu)
   have Hmk : Hid (∀ j, j < 40 → w1.cell? ⟨b, N b + j, none⟩ = some (.int .u64 (mru j))) := hmk
   generalize N b = n at *
   clear hmk
   clear hrw hu
   go_wp2
   go_loopw [6] (fun v6 w3 => ∃ j : Nat, j ≤ 40 ∧ v6 = .int .i64 j ∧ w1 = w3) (fun v6 _ => 40 - (intOf v6).toNat)
   case atStart => exact ⟨0, by omega, rfl, rfl⟩
   case round =>
    obtain ⟨j, hj, rfl, rfl⟩ := hrel
    skip
    by_cases hj0 : j < 40
    ·have hjI : (j : Int) < 40 := by omega
     have hc := Hmk.out j hj0
     by_cases hpar : j % 2 = 0
     ·rw [mru0 hpar] at hc
      have hp2 : Int.tmod (j : Int) 2 = 0 := by rw [Int.tmod_eq_emod_of_nonneg (by omega)]; omega
      go_wp2
      exact ⟨⟨j + 1, by omega, by go_num, trivial⟩, by simp [intOf]; omega⟩
     ·rw [mru1 hpar] at hc
      have hp2 : Int.tmod (j : Int) 2 = 1 := by rw [Int.tmod_eq_emod_of_nonneg (by omega)]; omega
      go_wp2
      exact ⟨⟨j + 1, by omega, by go_num, trivial⟩, by simp [intOf]; omega⟩
    ·have hjI : ¬ (j : Int) < 40 := by omega
     go_wp2
     exact ⟨⟨k + 1, by omega, by go_num, trivial⟩, by simp [intOf]; omega⟩
  ·have hk1 : ¬ (k : Int) < (S.E2.length : Int) := by omega
   go_wp2
   go_ret
   exact ⟨rfl, Hb1.out⟩
theorem roomHL_rg {w : World} {R : Nat} {N : Nat → Nat} {S : RS} (H : Rg w R N S) :
  Calls Tryz.prog 30 #[.pointer (some ⟨R, 0, none⟩)] w fun e w' => e = .returned (.bool true) ∧ Below w.heap.size w w' := by
 have hmk0 := marks_Ql (w := w) (F := []) (N := fun _ => 0) (by simp) (fun _ _ => rfl) 0
 have x0 : (((w.alloc (.cells #[.int .i64 (-7701)] 3)).alloc (.cells #[.int .i64 (-7702)] 3)).alloc (.cells #[.slice (some ⟨w.heap.size, 0, none⟩) 1 1, .slice (some ⟨w.heap.size + 1, 0, none⟩) 1 1] 24)).cell? ⟨w.heap.size + 1 + 1, 0, none⟩ = some (.slice (some ⟨w.heap.size, 0, none⟩) 1 1) := by have h9 := hmk0.2.2.2 0 _ rfl; rw [Addr.add_lit] at h9; exact h9
 have x1 : (((w.alloc (.cells #[.int .i64 (-7701)] 3)).alloc (.cells #[.int .i64 (-7702)] 3)).alloc (.cells #[.slice (some ⟨w.heap.size, 0, none⟩) 1 1, .slice (some ⟨w.heap.size + 1, 0, none⟩) 1 1] 24)).cell? ⟨w.heap.size + 1 + 1, 1, none⟩ = some (.slice (some ⟨w.heap.size + 1, 0, none⟩) 1 1) := by have h9 := hmk0.2.2.2 1 _ rfl; rw [Addr.add_lit] at h9; exact h9
 have x2 : (((w.alloc (.cells #[.int .i64 (-7701)] 3)).alloc (.cells #[.int .i64 (-7702)] 3)).alloc (.cells #[.slice (some ⟨w.heap.size, 0, none⟩) 1 1, .slice (some ⟨w.heap.size + 1, 0, none⟩) 1 1] 24)).cell? ⟨w.heap.size, 0, none⟩ = some (.int .i64 (-7701)) := by obtain ⟨b, c, e, -, -, -, h⟩ := hmk0.2.1; cases e; exact h
 have x3 : (((w.alloc (.cells #[.int .i64 (-7701)] 3)).alloc (.cells #[.int .i64 (-7702)] 3)).alloc (.cells #[.slice (some ⟨w.heap.size, 0, none⟩) 1 1, .slice (some ⟨w.heap.size + 1, 0, none⟩) 1 1] 24)).cell? ⟨w.heap.size + 1, 0, none⟩ = some (.int .i64 (-7702)) := by obtain ⟨b, c, e, -, -, -, h⟩ := hmk0.2.2.1; cases e; exact h
 have b1 : Below w.heap.size w (((w.alloc (.cells #[.int .i64 (-7701)] 3)).alloc (.cells #[.int .i64 (-7702)] 3)).alloc (.cells #[.slice (some ⟨w.heap.size, 0, none⟩) 1 1, .slice (some ⟨w.heap.size + 1, 0, none⟩) 1 1] 24)) := (hmk0).1
 have H1 := H.keep (Keeps.below b1)
 have hel : S.E5.length ≤ 1000000000 := Nat.le_trans (by unfold RS.tot; omega) H.t
 have k1 : (((w.alloc (.cells #[.int .i64 (-7701)] 3)).alloc (.cells #[.int .i64 (-7702)] 3)).alloc (.cells #[.slice (some ⟨w.heap.size, 0, none⟩) 1 1, .slice (some ⟨w.heap.size + 1, 0, none⟩) 1 1] 24)).cell? ⟨R, 5, none⟩ = some S.v5 := H1.c 5 (by omega)
 have Hb1 : Hid (Below w.heap.size w (((w.alloc (.cells #[.int .i64 (-7701)] 3)).alloc (.cells #[.int .i64 (-7702)] 3)).alloc (.cells #[.slice (some ⟨w.heap.size, 0, none⟩) 1 1, .slice (some ⟨w.heap.size + 1, 0, none⟩) 1 1] 24))) := b1
 have HR1 : Hid (Rg (((w.alloc (.cells #[.int .i64 (-7701)] 3)).alloc (.cells #[.int .i64 (-7702)] 3)).alloc (.cells #[.slice (some ⟨w.heap.size, 0, none⟩) 1 1, .slice (some ⟨w.heap.size + 1, 0, none⟩) 1 1] 24)) R N S) := H1
 obtain ⟨a, cap, ev, -⟩ := H1.w5
 rw [ev] at k1
 have Hev : Hid (S.v5 = .slice a S.E5.length cap) := ev
 clear H b1 H1 ev hmk0
 go_enter Tryz.func30, Tryz.ntmps30
 go_upto_region 2 with fail
 generalize ((w.alloc (.cells #[.int .i64 (-7701)] 3)).alloc (.cells #[.int .i64 (-7702)] 3)).alloc (.cells #[.slice (some ⟨w.heap.size, 0, none⟩) 1 1, .slice (some ⟨w.heap.size + 1, 0, none⟩) 1 1] 24) = w1 at *
 have HM : Hid (∀ w', Below w1.heap.size w1 w' → (w'.cell? ⟨R, 5, none⟩ = some (.slice a S.E5.length cap) ∧ w'.cell? ⟨w.heap.size + 1 + 1, 0, none⟩ = some (.slice (some ⟨w.heap.size, 0, none⟩) 1 1) ∧ w'.cell? ⟨w.heap.size + 1 + 1, 1, none⟩ = some (.slice (some ⟨w.heap.size + 1, 0, none⟩) 1 1) ∧ w'.cell? ⟨w.heap.size, 0, none⟩ = some (.int .i64 (-7701)) ∧ w'.cell? ⟨w.heap.size + 1, 0, none⟩ = some (.int .i64 (-7702))) ∧ Rg w' R N S) := fun w' b' => ⟨⟨(b'.cell (p := ⟨R, 5, none⟩) HR1.out.l).trans k1, (b'.cell (p := ⟨w.heap.size + 1 + 1, 0, none⟩) (World.block_lt_of_cell? _ _ x0)).trans x0, (b'.cell (p := ⟨w.heap.size + 1 + 1, 1, none⟩) (World.block_lt_of_cell? _ _ x1)).trans x1, (b'.cell (p := ⟨w.heap.size, 0, none⟩) (World.block_lt_of_cell? _ _ x2)).trans x2, (b'.cell (p := ⟨w.heap.size + 1, 0, none⟩) (World.block_lt_of_cell? _ _ x3)).trans x3⟩, HR1.out.keep (Keeps.below b')⟩
 clear k1 x0 x1 x2 x3
 go_wp2
 go_loopw [4] (fun v4 wr => ∃ k : Nat, k ≤ S.E5.length ∧ v4 = .int .i64 k ∧ Hid (Below w1.heap.size w1 wr)) (fun v4 _ => S.E5.length - (intOf v4).toNat)
 case atStart => exact ⟨0, by omega, rfl, Below.refl _ _⟩
 case round =>
  obtain ⟨k, hk, rfl, Hw⟩ := hrel
  obtain ⟨⟨k1, x0, x1, x2, x3⟩, hRr⟩ := HM.out _ Hw.out
  have HRr : Hid (Rg wr R N S) := hRr
  clear hRr
  by_cases hk0 : k < S.E5.length
  ·have hki : (k : Int) < (S.E5.length : Int) := by omega
   have hu : S.E5[k]? = some (S.E5[k]'hk0) := List.getElem?_eq_getElem hk0
   generalize S.E5[k]'hk0 = u at hu
   obtain ⟨a', cap', ev', hrw⟩ := HRr.out.w5
   rw [Hev.out] at ev'
   cases ev'
   obtain ⟨q, rfl, hq, hz, hcu⟩ := hrw k u hu
   obtain ⟨b, c, rfl, -, hbl, hnb, hmk⟩ := HRr.out.m5 u (List.mem_of_getElem? hu)
   have Hmk : Hid (∀ w', Below wr.heap.size wr w' → w'.cell? ⟨q, k, none⟩ = some (.slice (some ⟨b, 0, none⟩) (N b + 8) c) ∧ ∀ j, j < 8 → ∃ u, w'.cell? ⟨b, N b + j, none⟩ = some u ∧ Ml w' N [] j u) := fun w' b' => ⟨(b'.cell (p := ⟨q, k, none⟩) hq).trans hcu, fun j hj => by
    obtain ⟨u, h1, h2⟩ := hmk j hj
    exact ⟨u, (b'.cell (p := ⟨b, N b + j, none⟩) hbl).trans h1, h2.keep (Keeps.below b')⟩⟩
   clear hmk
   have hnb' : N b ≤ 1000000000000 := hnb
   obtain ⟨wA, hwA⟩ : ∃ wA, wA = wr := ⟨_, rfl⟩
   subst hwA
   clear hrw hu
   go_wp2
   go_loopw [6] (fun v6 w3 => ∃ j : Nat, j ≤ 8 ∧ v6 = .int .i64 j ∧ Hid (Below wA.heap.size wA w3)) (fun v6 _ => 8 - (intOf v6).toNat)
   case atStart => exact ⟨0, by omega, rfl, Below.refl _ _⟩
   case round =>
    obtain ⟨j, hj, rfl, Hw3⟩ := hrel
    have HB3 : Hid (Below w1.heap.size w1 wr) := Hw.out.trans (Hw3.out.mono Hw.out.size)
    clear k1 x0 x1 x2 x3 HRr hcu
    obtain ⟨⟨k1, x0, x1, x2, x3⟩, hRr⟩ := HM.out _ HB3.out
    obtain ⟨hcu, hmk⟩ := Hmk.out _ Hw3.out
    by_cases hj0 : j < 8
    ·have hjI : (j : Int) < 8 := by omega
     obtain ⟨u, hc, b5, c5, rfl, -, hl5, -, hc5⟩ := hmk j hj0
     clear hmk
     by_cases hpar : j % 2 = 0
     ·rw [mrk0 hpar] at hc5
      have hp2 : Int.tmod (j : Int) 2 = 0 := by rw [Int.tmod_eq_emod_of_nonneg (by omega)]; omega
      go_upto_region 11 with fail
      go_quiet (fail)
      go_wp2
      exact ⟨⟨j + 1, by omega, by go_num, Below.drewN' Hw3.out _⟩, by simp [intOf]; omega⟩
     ·rw [mrk1 hpar] at hc5
      have hp2 : Int.tmod (j : Int) 2 = 1 := by rw [Int.tmod_eq_emod_of_nonneg (by omega)]; omega
      go_upto_region 11 with fail
      go_quiet (fail)
      go_wp2
      exact ⟨⟨j + 1, by omega, by go_num, Below.drewN' Hw3.out _⟩, by simp [intOf]; omega⟩
    ·have hjI : ¬ (j : Int) < 8 := by omega
     go_wp2
     exact ⟨⟨k + 1, by omega, by go_num, Hw.out.trans (Hw3.out.mono Hw.out.size)⟩, by simp [intOf]; omega⟩
  ·have hk1 : ¬ (k : Int) < (S.E5.length : Int) := by omega
   go_wp2
   go_ret
   exact ⟨rfl, Hb1.out.trans (Hw.out.mono Hb1.out.size)⟩
theorem roomHF_rg {w : World} {R : Nat} {N : Nat → Nat} {S : RS} (H : Rg w R N S) :
  Calls Tryz.prog 31 #[.pointer (some ⟨R, 0, none⟩)] w fun e w' => e = .returned (.bool true) ∧ Below w.heap.size w w' := by
 have hmk0 := marks_Qm (w := w) (F := []) (N := fun _ => 0) (by simp) (fun _ _ => rfl) 0
 have x0 : (((((w.alloc (.cells #[.int .i64 (-7701)] 3)).alloc (.cells #[.slice (some ⟨w.heap.size, 0, none⟩) 1 1] 24)).alloc (.cells #[.int .i64 (-7702)] 3)).alloc (.cells #[.slice (some ⟨w.heap.size + 1 + 1, 0, none⟩) 1 1] 24)).alloc (.cells #[.slice (some ⟨w.heap.size + 1, 0, none⟩) 1 1, .slice (some ⟨w.heap.size + 1 + 1 + 1, 0, none⟩) 1 1] 30)).cell? ⟨w.heap.size + 1 + 1 + 1 + 1, 0, none⟩ = some (.slice (some ⟨w.heap.size + 1, 0, none⟩) 1 1) := by have h9 := hmk0.2.2.2 0 _ rfl; rw [Addr.add_lit] at h9; exact h9
 have x1 : (((((w.alloc (.cells #[.int .i64 (-7701)] 3)).alloc (.cells #[.slice (some ⟨w.heap.size, 0, none⟩) 1 1] 24)).alloc (.cells #[.int .i64 (-7702)] 3)).alloc (.cells #[.slice (some ⟨w.heap.size + 1 + 1, 0, none⟩) 1 1] 24)).alloc (.cells #[.slice (some ⟨w.heap.size + 1, 0, none⟩) 1 1, .slice (some ⟨w.heap.size + 1 + 1 + 1, 0, none⟩) 1 1] 30)).cell? ⟨w.heap.size + 1 + 1 + 1 + 1, 1, none⟩ = some (.slice (some ⟨w.heap.size + 1 + 1 + 1, 0, none⟩) 1 1) := by have h9 := hmk0.2.2.2 1 _ rfl; rw [Addr.add_lit] at h9; exact h9
 obtain ⟨x2, x3⟩ : (((((w.alloc (.cells #[.int .i64 (-7701)] 3)).alloc (.cells #[.slice (some ⟨w.heap.size, 0, none⟩) 1 1] 24)).alloc (.cells #[.int .i64 (-7702)] 3)).alloc (.cells #[.slice (some ⟨w.heap.size + 1 + 1, 0, none⟩) 1 1] 24)).alloc (.cells #[.slice (some ⟨w.heap.size + 1, 0, none⟩) 1 1, .slice (some ⟨w.heap.size + 1 + 1 + 1, 0, none⟩) 1 1] 30)).cell? ⟨w.heap.size + 1, 0, none⟩ = some (.slice (some ⟨w.heap.size, 0, none⟩) 1 1) ∧ (((((w.alloc (.cells #[.int .i64 (-7701)] 3)).alloc (.cells #[.slice (some ⟨w.heap.size, 0, none⟩) 1 1] 24)).alloc (.cells #[.int .i64 (-7702)] 3)).alloc (.cells #[.slice (some ⟨w.heap.size + 1 + 1, 0, none⟩) 1 1] 24)).alloc (.cells #[.slice (some ⟨w.heap.size + 1, 0, none⟩) 1 1, .slice (some ⟨w.heap.size + 1 + 1 + 1, 0, none⟩) 1 1] 30)).cell? ⟨w.heap.size, 0, none⟩ = some (.int .i64 (-7701)) := by
  have c1 := Kg.heap_cell (heap_alloc_new w (.cells #[.int .i64 (-7701)] 3 (0, 0))) 0
  have c2 := Kg.heap_cell (heap_alloc_new (w.alloc (.cells #[.int .i64 (-7701)] 3)) (.cells #[.slice (some ⟨w.heap.size, 0, none⟩) 1 1] 24 (0, 0))) 0
  rw [World.size_alloc] at c2
  refine ⟨(World.cell?_of_block ?_).trans c2, (World.cell?_of_block ?_).trans c1⟩
  ·rw [Below.heap_alloc _ _ _ (by simp <;> omega), Below.heap_alloc _ _ _ (by simp <;> omega), Below.heap_alloc _ _ _ (by simp)]
  ·rw [Below.heap_alloc _ _ _ (by simp <;> omega), Below.heap_alloc _ _ _ (by simp <;> omega), Below.heap_alloc _ _ _ (by simp <;> omega), Below.heap_alloc _ _ _ (by simp)]
 obtain ⟨x4, x5⟩ : (((((w.alloc (.cells #[.int .i64 (-7701)] 3)).alloc (.cells #[.slice (some ⟨w.heap.size, 0, none⟩) 1 1] 24)).alloc (.cells #[.int .i64 (-7702)] 3)).alloc (.cells #[.slice (some ⟨w.heap.size + 1 + 1, 0, none⟩) 1 1] 24)).alloc (.cells #[.slice (some ⟨w.heap.size + 1, 0, none⟩) 1 1, .slice (some ⟨w.heap.size + 1 + 1 + 1, 0, none⟩) 1 1] 30)).cell? ⟨w.heap.size + 1 + 1 + 1, 0, none⟩ = some (.slice (some ⟨w.heap.size + 1 + 1, 0, none⟩) 1 1) ∧ (((((w.alloc (.cells #[.int .i64 (-7701)] 3)).alloc (.cells #[.slice (some ⟨w.heap.size, 0, none⟩) 1 1] 24)).alloc (.cells #[.int .i64 (-7702)] 3)).alloc (.cells #[.slice (some ⟨w.heap.size + 1 + 1, 0, none⟩) 1 1] 24)).alloc (.cells #[.slice (some ⟨w.heap.size + 1, 0, none⟩) 1 1, .slice (some ⟨w.heap.size + 1 + 1 + 1, 0, none⟩) 1 1] 30)).cell? ⟨w.heap.size + 1 + 1, 0, none⟩ = some (.int .i64 (-7702)) := by
  have c3 := Kg.heap_cell (heap_alloc_new ((w.alloc (.cells #[.int .i64 (-7701)] 3)).alloc (.cells #[.slice (some ⟨w.heap.size, 0, none⟩) 1 1] 24)) (.cells #[.int .i64 (-7702)] 3 (0, 0))) 0
  rw [World.size_alloc, World.size_alloc] at c3
  have c4 := Kg.heap_cell (heap_alloc_new (((w.alloc (.cells #[.int .i64 (-7701)] 3)).alloc (.cells #[.slice (some ⟨w.heap.size, 0, none⟩) 1 1] 24)).alloc (.cells #[.int .i64 (-7702)] 3)) (.cells #[.slice (some ⟨w.heap.size + 1 + 1, 0, none⟩) 1 1] 24 (0, 0))) 0
  rw [World.size_alloc, World.size_alloc, World.size_alloc] at c4
  refine ⟨(World.cell?_of_block ?_).trans c4, (World.cell?_of_block ?_).trans c3⟩
  ·rw [Below.heap_alloc _ _ _ (by simp)]
  ·rw [Below.heap_alloc _ _ _ (by simp <;> omega), Below.heap_alloc _ _ _ (by simp)]
 have b1 : Below w.heap.size w (((((w.alloc (.cells #[.int .i64 (-7701)] 3)).alloc (.cells #[.slice (some ⟨w.heap.size, 0, none⟩) 1 1] 24)).alloc (.cells #[.int .i64 (-7702)] 3)).alloc (.cells #[.slice (some ⟨w.heap.size + 1 + 1, 0, none⟩) 1 1] 24)).alloc (.cells #[.slice (some ⟨w.heap.size + 1, 0, none⟩) 1 1, .slice (some ⟨w.heap.size + 1 + 1 + 1, 0, none⟩) 1 1] 30)) := (hmk0).1
 have H1 := H.keep (Keeps.below b1)
 have hel : S.E6.length ≤ 1000000000 := Nat.le_trans (by unfold RS.tot; omega) H.t
 have k1 : (((((w.alloc (.cells #[.int .i64 (-7701)] 3)).alloc (.cells #[.slice (some ⟨w.heap.size, 0, none⟩) 1 1] 24)).alloc (.cells #[.int .i64 (-7702)] 3)).alloc (.cells #[.slice (some ⟨w.heap.size + 1 + 1, 0, none⟩) 1 1] 24)).alloc (.cells #[.slice (some ⟨w.heap.size + 1, 0, none⟩) 1 1, .slice (some ⟨w.heap.size + 1 + 1 + 1, 0, none⟩) 1 1] 30)).cell? ⟨R, 6, none⟩ = some S.v6 := H1.c 6 (by omega)
 have Hb1 : Hid (Below w.heap.size w (((((w.alloc (.cells #[.int .i64 (-7701)] 3)).alloc (.cells #[.slice (some ⟨w.heap.size, 0, none⟩) 1 1] 24)).alloc (.cells #[.int .i64 (-7702)] 3)).alloc (.cells #[.slice (some ⟨w.heap.size + 1 + 1, 0, none⟩) 1 1] 24)).alloc (.cells #[.slice (some ⟨w.heap.size + 1, 0, none⟩) 1 1, .slice (some ⟨w.heap.size + 1 + 1 + 1, 0, none⟩) 1 1] 30))) := b1
 have HR1 : Hid (Rg (((((w.alloc (.cells #[.int .i64 (-7701)] 3)).alloc (.cells #[.slice (some ⟨w.heap.size, 0, none⟩) 1 1] 24)).alloc (.cells #[.int .i64 (-7702)] 3)).alloc (.cells #[.slice (some ⟨w.heap.size + 1 + 1, 0, none⟩) 1 1] 24)).alloc (.cells #[.slice (some ⟨w.heap.size + 1, 0, none⟩) 1 1, .slice (some ⟨w.heap.size + 1 + 1 + 1, 0, none⟩) 1 1] 30)) R N S) := H1
 obtain ⟨a, cap, ev, -⟩ := H1.w6
 rw [ev] at k1
 have Hev : Hid (S.v6 = .slice a S.E6.length cap) := ev
 clear H b1 H1 ev hmk0
 go_enter Tryz.func31, Tryz.ntmps31
 go_upto_region 2 with fail
 generalize ((((w.alloc (.cells #[.int .i64 (-7701)] 3)).alloc (.cells #[.slice (some ⟨w.heap.size, 0, none⟩) 1 1] 24)).alloc (.cells #[.int .i64 (-7702)] 3)).alloc (.cells #[.slice (some ⟨w.heap.size + 1 + 1, 0, none⟩) 1 1] 24)).alloc (.cells #[.slice (some ⟨w.heap.size + 1, 0, none⟩) 1 1, .slice (some ⟨w.heap.size + 1 + 1 + 1, 0, none⟩) 1 1] 30) = w1 at *
 have HM : Hid (∀ w', Below w1.heap.size w1 w' → (w'.cell? ⟨R, 6, none⟩ = some (.slice a S.E6.length cap) ∧ w'.cell? ⟨w.heap.size + 1 + 1 + 1 + 1, 0, none⟩ = some (.slice (some ⟨w.heap.size + 1, 0, none⟩) 1 1) ∧ w'.cell? ⟨w.heap.size + 1 + 1 + 1 + 1, 1, none⟩ = some (.slice (some ⟨w.heap.size + 1 + 1 + 1, 0, none⟩) 1 1) ∧ w'.cell? ⟨w.heap.size + 1, 0, none⟩ = some (.slice (some ⟨w.heap.size, 0, none⟩) 1 1) ∧ w'.cell? ⟨w.heap.size, 0, none⟩ = some (.int .i64 (-7701)) ∧ w'.cell? ⟨w.heap.size + 1 + 1 + 1, 0, none⟩ = some (.slice (some ⟨w.heap.size + 1 + 1, 0, none⟩) 1 1) ∧ w'.cell? ⟨w.heap.size + 1 + 1, 0, none⟩ = some (.int .i64 (-7702))) ∧ Rg w' R N S) := fun w' b' => ⟨⟨(b'.cell (p := ⟨R, 6, none⟩) HR1.out.l).trans k1, (b'.cell (p := ⟨w.heap.size + 1 + 1 + 1 + 1, 0, none⟩) (World.block_lt_of_cell? _ _ x0)).trans x0, (b'.cell (p := ⟨w.heap.size + 1 + 1 + 1 + 1, 1, none⟩) (World.block_lt_of_cell? _ _ x1)).trans x1, (b'.cell (p := ⟨w.heap.size + 1, 0, none⟩) (World.block_lt_of_cell? _ _ x2)).trans x2, (b'.cell (p := ⟨w.heap.size, 0, none⟩) (World.block_lt_of_cell? _ _ x3)).trans x3, (b'.cell (p := ⟨w.heap.size + 1 + 1 + 1, 0, none⟩) (World.block_lt_of_cell? _ _ x4)).trans x4, (b'.cell (p := ⟨w.heap.size + 1 + 1, 0, none⟩) (World.block_lt_of_cell? _ _ x5)).trans x5⟩, HR1.out.keep (Keeps.below b')⟩
 clear k1 x0 x1 x2 x3 x4 x5
 go_wp2
 go_loopw [4] (fun v4 wr => ∃ k : Nat, k ≤ S.E6.length ∧ v4 = .int .i64 k ∧ Hid (Below w1.heap.size w1 wr)) (fun v4 _ => S.E6.length - (intOf v4).toNat)
 case atStart => exact ⟨0, by omega, rfl, Below.refl _ _⟩
 case round =>
  obtain ⟨k, hk, rfl, Hw⟩ := hrel
  obtain ⟨⟨k1, x0, x1, x2, x3, x4, x5⟩, hRr⟩ := HM.out _ Hw.out
  have HRr : Hid (Rg wr R N S) := hRr
  clear hRr
  by_cases hk0 : k < S.E6.length
  ·have hki : (k : Int) < (S.E6.length : Int) := by omega
   have hu : S.E6[k]? = some (S.E6[k]'hk0) := List.getElem?_eq_getElem hk0
   generalize S.E6[k]'hk0 = u at hu
   obtain ⟨a', cap', ev', hrw⟩ := HRr.out.w6
   rw [Hev.out] at ev'
   cases ev'
   obtain ⟨q, rfl, hq, hz, hcu⟩ := hrw k u hu
   obtain ⟨b, c, rfl, -, hbl, hnb, hmk⟩ := HRr.out.m6 u (List.mem_of_getElem? hu)
   have Hmk : Hid (∀ w', Below wr.heap.size wr w' → w'.cell? ⟨q, k, none⟩ = some (.slice (some ⟨b, 0, none⟩) (N b + 8) c) ∧ ∀ j, j < 8 → ∃ u, w'.cell? ⟨b, N b + j, none⟩ = some u ∧ Mm w' N [] j u) := fun w' b' => ⟨(b'.cell (p := ⟨q, k, none⟩) hq).trans hcu, fun j hj => by
    obtain ⟨u, h1, h2⟩ := hmk j hj
    exact ⟨u, (b'.cell (p := ⟨b, N b + j, none⟩) hbl).trans h1, h2.keep (Keeps.below b')⟩⟩
   clear hmk
   have hnb' : N b ≤ 1000000000000 := hnb
   obtain ⟨wA, hwA⟩ : ∃ wA, wA = wr := ⟨_, rfl⟩
   subst hwA
   clear hrw hu
   go_wp2
   go_loopw [6] (fun v6 w3 => ∃ j : Nat, j ≤ 8 ∧ v6 = .int .i64 j ∧ Hid (Below wA.heap.size wA w3)) (fun v6 _ => 8 - (intOf v6).toNat)
   case atStart => exact ⟨0, by omega, rfl, Below.refl _ _⟩
   case round =>
    obtain ⟨j, hj, rfl, Hw3⟩ := hrel
    have HB3 : Hid (Below w1.heap.size w1 wr) := Hw.out.trans (Hw3.out.mono Hw.out.size)
    clear k1 x0 x1 x2 x3 x4 x5 HRr hcu
    obtain ⟨⟨k1, x0, x1, x2, x3, x4, x5⟩, hRr⟩ := HM.out _ HB3.out
    obtain ⟨hcu, hmk⟩ := Hmk.out _ Hw3.out
    by_cases hj0 : j < 8
    ·have hjI : (j : Int) < 8 := by omega
     obtain ⟨u, hc, b5, c5, rfl, -, hl5, -, u6, hc6, b6, c6, rfl, -, hl6, -, hc5⟩ := hmk j hj0
     clear hmk
     by_cases hpar : j % 2 = 0
     ·rw [mrk0 hpar] at hc5
      have hp2 : Int.tmod (j : Int) 2 = 0 := by rw [Int.tmod_eq_emod_of_nonneg (by omega)]; omega
      go_upto_region 11 with fail
      go_quiet (fail)
      go_wp2
      exact ⟨⟨j + 1, by omega, by go_num, Below.drewN' Hw3.out _⟩, by simp [intOf]; omega⟩
     ·rw [mrk1 hpar] at hc5
      have hp2 : Int.tmod (j : Int) 2 = 1 := by rw [Int.tmod_eq_emod_of_nonneg (by omega)]; omega
      go_upto_region 11 with fail
      go_quiet (fail)
      go_wp2
      exact ⟨⟨j + 1, by omega, by go_num, Below.drewN' Hw3.out _⟩, by simp [intOf]; omega⟩
    ·have hjI : ¬ (j : Int) < 8 := by omega
     go_wp2
     exact ⟨⟨k + 1, by omega, by go_num, Hw.out.trans (Hw3.out.mono Hw.out.size)⟩, by simp [intOf]; omega⟩
  ·have hk1 : ¬ (k : Int) < (S.E6.length : Int) := by omega
   go_wp2
   go_ret
   exact ⟨rfl, Hb1.out.trans (Hw.out.mono Hb1.out.size)⟩
end Go.Proofs.YtckgcpoheodbcaaGreatDoor
