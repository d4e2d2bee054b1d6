/-
  changed, where SetPtr or SetRaw says yes.
-/
import Derived.Test.YtbdkcelggffneaaDoorPHq
set_option linter.unusedVariables false
set_option maxRecDepth 20000
namespace Go.Proofs.YtbdkcelggffneaaDoor
open Go.RowKit Go.Shelf

theorem Touch.mono {F G : List Nat} {a b : World} (h : Touch F a b) (hs : ∀ k, k ∈ F → k ∈ G ∨ a.heap.size ≤ k) : Touch G a b :=
  ⟨h.os, h.tape, h.output, h.size, fun k hk hn => h.block k hk (fun hm => by rcases hs k hm with h1 | h1; exact hn h1; omega)⟩

theorem set_atH {w : World} {X : Nat} {cs : Array Value} {t : TypeId} (h : w.heap[X]? = some (.cells cs t)) (j : Nat) (u : Value) : (w.setCell ⟨X, j, none⟩ u).heap[X]? = some (.cells (cs.setIfInBounds j u) t) := by
  rw [setCell_eq_setRow _ _ _ _ _ _ _ h]
  exact setRow_heap _ _ _ _ _ _ h

set_option maxHeartbeats 8000000 in
theorem changed_raw_yes (b g ga L cap : Nat) (c : Cfg) (x : Tps) (sw : Bool) (ws ws' : Nat → Int) (S N C W s k p r a t : Int) (h : Bool) (n NP GP : Nat) (hn : n < NP) (hNP : NP ≤ 1000000) (w : World) (i : Nat) (hi : i < L) (hL : L ≤ 1000000) (Q : Int) (cs : Array Value) (old : Value)
    (h0 : w.cell? ⟨ga, i * 11, none⟩ = some (.int .i64 Q)) (h9 : w.cell? ⟨ga, i * 11 + 10, none⟩ = some (.slice (some ⟨GP, 0, none⟩) NP NP)) (hg : w.heap[GP]? = some (.cells cs 38 (0, 0))) (hold : cs[n]? = some old)
    (hga : ga ≠ g) (hGP : GP ≠ g) (hgl : g < w.heap.size) 
    (hmod : ∀ w1, Calls Tryd.prog 13 #[.int .i64 N, .int .i64 L] w1 fun e w' => e = .returned (.int .i64 i) ∧ w1 = w')
    (hp : ∀ w1, Below w.heap.size w w1 → Calls Tryd.prog 39 #[.pointer (some ⟨b, 0, none⟩), .int .i64 Q, .int .i64 n, .int .u64 W] w1 fun e w' => e = .returned (.bool true) ∧ Ar w' b g c x sw ws' ∧ Touch [g] w1 w') (hbG : GP ≠ b) :
    Calls Tryd.prog 23 #[.pointer (some ⟨b, 0, none⟩), .slice (some ⟨ga, 0, none⟩) L cap, dv 5 S N n C W s k p r a t h] w fun e w' => e = .returned (.bool true) ∧ Ar w' b g c x sw ws' ∧ Touch [g, GP] w w' ∧ w'.heap[GP]? = some (.cells (cs.setIfInBounds n (.int .u64 W)) 38 (0, 0)) := by
  have b0 : Below w.heap.size w (w.alloc (.cells (dcells 5 S N n C W s k p r a t h) 48)) := Below.alloc (Below.refl _ _) (Nat.le_refl _) _
  have d0 := Dc.new w (dcells 5 S N n C W s k p r a t h)
  have cl : ∀ {q : Addr} {u : Value}, w.cell? q = some u → (w.alloc (.cells (dcells 5 S N n C W s k p r a t h) 48)).cell? q = some u := fun hq => (b0.cell (World.block_lt_of_cell? _ _ hq)).trans hq
  have y0 := cl h0
  have y9 := cl h9
  have lga : ga < w.heap.size := World.block_lt_of_cell? _ _ h0
  have lgp : GP < w.heap.size := (Array.getElem?_eq_some_iff.1 hg).1
  have yg : (w.alloc (.cells (dcells 5 S N n C W s k p r a t h) 48)).heap[GP]? = some (.cells cs 38 (0, 0)) := (b0.block GP lgp).trans hg
  have HZ : Hid ((w.alloc (.cells (dcells 5 S N n C W s k p r a t h) 48)).heap.size = w.heap.size + 1) := by show _ = _; simp
  have k0 : (w.alloc (.cells (dcells 5 S N n C W s k p r a t h) 48)).cell? ⟨w.heap.size, 0, none⟩ = some (.int .i64 5) := d0.cell 0
  have k2 : (w.alloc (.cells (dcells 5 S N n C W s k p r a t h) 48)).cell? ⟨w.heap.size, 2, none⟩ = some (.int .i64 N) := d0.cell 2
  have k3 : (w.alloc (.cells (dcells 5 S N n C W s k p r a t h) 48)).cell? ⟨w.heap.size, 3, none⟩ = some (.int .i64 n) := d0.cell 3
  have k4 : (w.alloc (.cells (dcells 5 S N n C W s k p r a t h) 48)).cell? ⟨w.heap.size, 4, none⟩ = some (.int .i64 C) := d0.cell 4
  have k5 : (w.alloc (.cells (dcells 5 S N n C W s k p r a t h) 48)).cell? ⟨w.heap.size, 5, none⟩ = some (.int .u64 W) := d0.cell 5
  have Hp : Hid (∀ w1, Below w.heap.size w w1 → Calls Tryd.prog 39 #[.pointer (some ⟨b, 0, none⟩), .int .i64 Q, .int .i64 n, .int .u64 W] w1 fun e w' => e = .returned (.bool true) ∧ Ar w' b g c x sw ws' ∧ Touch [g] w1 w') := hp
  have Hg : Hid (g < w.heap.size ∧ ga ≠ g ∧ GP ≠ g ∧ GP < w.heap.size ∧ ga < w.heap.size ∧ GP ≠ b) := ⟨hgl, hga, hGP, lgp, lga, hbG⟩
  have HB0 : Hid (Below w.heap.size w (w.alloc (.cells (dcells 5 S N n C W s k p r a t h) 48))) := b0
  have hil : (i : Int) < (L : Int) := by omega
  have hnl : (n : Int) < (NP : Int) := by omega
  clear hp h0 h9 hg cl d0 hga hGP hgl lga lgp b0 hbG
  go_enter Tryd.func23, Tryd.ntmps23
  go_wp2_with fail
  generalize (w.alloc (.cells (dcells 5 S N n C W s k p r a t h) 48)) = w1 at *
  refine (hmod w1).mono ?_
  rintro e w2 ⟨rfl, rfl⟩
  clear hmod
  have hp4 : ∀ m, Calls Tryd.prog 39 #[.pointer (some ⟨b, 0, none⟩), .int .i64 Q, .int .i64 n, .int .u64 W] (w1.drewN m) fun e w' => e = .returned (.bool true) ∧ Ar w' b g c x sw ws' ∧ Touch [g] (w1.drewN m) w' := fun m => Hp.out _ (below_drewN HB0.out m)
  go_upto_region 19 with fail
  refine quiet_tail 9 mixed (by kernel_rfl) ?_
  simp only [List.take_succ_cons, List.take_zero, List.drop_succ_cons, List.drop_zero]
  repeat (go_big_quiet_step (fail))
  refine wpQuiet_nil ?_
  go_wp2_with fail
  refine (hp4 1).mono ?_
  rintro e w5 ⟨rfl, A5, t5⟩
  have T5 : Hid (Touch [g] w w5) := (Touch.of_below (below_drewN HB0.out 1) _).trans t5
  have ck : ∀ {q : Addr} {u : Value}, q.block ≠ g → w1.cell? q = some u → w5.cell? q = some u := fun hn hq => (World.cell?_of_block (w := w1.drewN 1) (t5.block _ (World.block_lt_of_cell? _ _ hq) (by simpa using hn))).trans hq
  obtain ⟨G1, G2, G3, G4, G5, G6⟩ := Hg.out
  have v3 : w5.cell? ⟨w.heap.size, 3, none⟩ = some (.int .i64 n) := ck (show w.heap.size ≠ g by omega) k3
  have v5 : w5.cell? ⟨w.heap.size, 5, none⟩ = some (.int .u64 W) := ck (show w.heap.size ≠ g by omega) k5
  have v9 : w5.cell? ⟨ga, i * 11 + 10, none⟩ = some (.slice (some ⟨GP, 0, none⟩) NP NP) := ck (show ga ≠ g from G2) y9
  have vg : w5.heap[GP]? = some (.cells cs 38 (0, 0)) := (t5.block GP (by have := HZ.out; show GP < w1.heap.size; omega) (by simpa using G3)).trans yg
  have HA5 : Hid (Ar w5 b g c x sw ws') := A5
  clear hp4 y0 y9 k0 k2 k3 k4 k5 t5 A5 ck yg G1 G2 G3 G4 G5 G6
  have e1 : decide (0 ≤ (n : Int)) = true := decide_eq_true (by omega)
  have e2 : decide ((n : Int) < (NP : Int)) = true := decide_eq_true (by omega)
  go_upto_region 20 with fail
  refine quiet_tail 14 mixed (by kernel_rfl) ?_
  simp only [List.take_succ_cons, List.take_zero, List.drop_succ_cons, List.drop_zero]
  repeat (go_big_quiet_step (fail))
  refine wpQuiet_nil ?_
  have f3 : w5.drew.cell? ⟨w.heap.size, 3, none⟩ = some (.int .i64 n) := v3
  have f5 : w5.drew.cell? ⟨w.heap.size, 5, none⟩ = some (.int .u64 W) := v5
  have f9 : w5.drew.cell? ⟨ga, i * 11 + 10, none⟩ = some (.slice (some ⟨GP, 0, none⟩) NP NP) := v9
  have fg : w5.drew.heap[GP]? = some (.cells cs 38 (0, 0)) := vg
  have HA6 : Hid (Ar w5.drew b g c x sw ws') := HA5.out.below (below_drewN (Below.refl _ _) 1)
  have T6 : Hid (Touch [g] w w5.drew) := T5.out.trans (Touch.of_below (below_drewN (Below.refl _ w5) 1) _)
  clear v3 v5 v9 vg HA5 T5
  go_upto_region 23 with fail
  generalize w5.drew = w6 at *
  clear w5
  have fn : w6.cell? ⟨GP, n, none⟩ = some old := (cell_of_row _ _ n _ _ _ fg).trans hold
  have zn : w6.frozen? ⟨GP, n, none⟩ = false := by unfold World.frozen?; simp only [fg]; simp
  have Hfg : Hid (w6.heap[GP]? = some (.cells cs 38 (0, 0))) := fg
  clear fg
  refine quiet_tail 8 mixed (by kernel_rfl) ?_
  simp only [List.take_succ_cons, List.take_zero, List.drop_succ_cons, List.drop_zero]
  repeat (go_big_quiet_step (fail))
  refine wpQuiet_nil ?_
  go_wp2
  go_ret
  have tt : Touch [GP] w6 (w6.drew.setCell ⟨GP, n, none⟩ (.int .u64 W)) := (Touch.of_below (below_drewN (Below.refl _ w6) 1) _).trans (Touch.setCell _ _ _ (by simp))
  obtain ⟨G1, G2, G3, G4, G5, G6⟩ := Hg.out
  exact ⟨rfl, HA6.out.touch tt (by simpa using Ne.symm G6) (by simpa using Ne.symm G3), (T6.out.mono (fun q hq => .inl (by simp at hq ⊢; exact .inl hq))).trans (tt.mono (fun q hq => .inl (by simp at hq ⊢; exact .inr hq))), set_atH (w := w6.drew) Hfg.out n _⟩

set_option maxHeartbeats 8000000 in
theorem changed_ptr_yes (b g ga L cap : Nat) (c : Cfg) (x : Tps) (sw : Bool) (ws ws' : Nat → Int) (S N C W s k p r a t : Int) (h : Bool) (n NP GP : Nat) (hn : n < NP) (hNP : NP ≤ 1000000) (w : World) (i : Nat) (hi : i < L) (hL : L ≤ 1000000) (Q : Int) (cs : Array Value) (old : Value)
    (h0 : w.cell? ⟨ga, i * 11, none⟩ = some (.int .i64 Q)) (h9 : w.cell? ⟨ga, i * 11 + 9, none⟩ = some (.slice (some ⟨GP, 0, none⟩) NP NP)) (hg : w.heap[GP]? = some (.cells cs 3 (0, 0))) (hold : cs[n]? = some old)
    (hga : ga ≠ g) (hGP : GP ≠ g) (hgl : g < w.heap.size) (j : Nat) (Q2 : Int) (hj : w.cell? ⟨ga, j * 11, none⟩ = some (.int .i64 Q2)) (hmod2 : ∀ w1, Calls Tryd.prog 13 #[.int .i64 C, .int .i64 L] w1 fun e w' => e = .returned (.int .i64 j) ∧ w1 = w') (hjl : j < L) 
    (hmod : ∀ w1, Calls Tryd.prog 13 #[.int .i64 N, .int .i64 L] w1 fun e w' => e = .returned (.int .i64 i) ∧ w1 = w')
    (hp : ∀ w1, Below w.heap.size w w1 → Calls Tryd.prog 38 #[.pointer (some ⟨b, 0, none⟩), .int .i64 Q, .int .i64 n, .int .i64 Q2] w1 fun e w' => e = .returned (.bool true) ∧ Ar w' b g c x sw ws' ∧ Touch [g] w1 w') (hbG : GP ≠ b) :
    Calls Tryd.prog 23 #[.pointer (some ⟨b, 0, none⟩), .slice (some ⟨ga, 0, none⟩) L cap, dv 4 S N n C W s k p r a t h] w fun e w' => e = .returned (.bool true) ∧ Ar w' b g c x sw ws' ∧ Touch [g, GP] w w' ∧ w'.heap[GP]? = some (.cells (cs.setIfInBounds n (.int .i64 Q2)) 3 (0, 0)) := by
  have b0 : Below w.heap.size w (w.alloc (.cells (dcells 4 S N n C W s k p r a t h) 48)) := Below.alloc (Below.refl _ _) (Nat.le_refl _) _
  have d0 := Dc.new w (dcells 4 S N n C W s k p r a t h)
  have cl : ∀ {q : Addr} {u : Value}, w.cell? q = some u → (w.alloc (.cells (dcells 4 S N n C W s k p r a t h) 48)).cell? q = some u := fun hq => (b0.cell (World.block_lt_of_cell? _ _ hq)).trans hq
  have y0 := cl h0
  have y9 := cl h9
  have u0 := cl hj
  have lga : ga < w.heap.size := World.block_lt_of_cell? _ _ h0
  have lgp : GP < w.heap.size := (Array.getElem?_eq_some_iff.1 hg).1
  have yg : (w.alloc (.cells (dcells 4 S N n C W s k p r a t h) 48)).heap[GP]? = some (.cells cs 3 (0, 0)) := (b0.block GP lgp).trans hg
  have HZ : Hid ((w.alloc (.cells (dcells 4 S N n C W s k p r a t h) 48)).heap.size = w.heap.size + 1) := by show _ = _; simp
  have k0 : (w.alloc (.cells (dcells 4 S N n C W s k p r a t h) 48)).cell? ⟨w.heap.size, 0, none⟩ = some (.int .i64 4) := d0.cell 0
  have k2 : (w.alloc (.cells (dcells 4 S N n C W s k p r a t h) 48)).cell? ⟨w.heap.size, 2, none⟩ = some (.int .i64 N) := d0.cell 2
  have k3 : (w.alloc (.cells (dcells 4 S N n C W s k p r a t h) 48)).cell? ⟨w.heap.size, 3, none⟩ = some (.int .i64 n) := d0.cell 3
  have k4 : (w.alloc (.cells (dcells 4 S N n C W s k p r a t h) 48)).cell? ⟨w.heap.size, 4, none⟩ = some (.int .i64 C) := d0.cell 4
  have k5 : (w.alloc (.cells (dcells 4 S N n C W s k p r a t h) 48)).cell? ⟨w.heap.size, 5, none⟩ = some (.int .u64 W) := d0.cell 5
  have Hp : Hid (∀ w1, Below w.heap.size w w1 → Calls Tryd.prog 38 #[.pointer (some ⟨b, 0, none⟩), .int .i64 Q, .int .i64 n, .int .i64 Q2] w1 fun e w' => e = .returned (.bool true) ∧ Ar w' b g c x sw ws' ∧ Touch [g] w1 w') := hp
  have Hg : Hid (g < w.heap.size ∧ ga ≠ g ∧ GP ≠ g ∧ GP < w.heap.size ∧ ga < w.heap.size ∧ GP ≠ b) := ⟨hgl, hga, hGP, lgp, lga, hbG⟩
  have HB0 : Hid (Below w.heap.size w (w.alloc (.cells (dcells 4 S N n C W s k p r a t h) 48))) := b0
  have hil : (i : Int) < (L : Int) := by omega
  have hnl : (n : Int) < (NP : Int) := by omega
  have hjl2 : (j : Int) < (L : Int) := by omega
  clear hp h0 h9 hg cl d0 hga hGP hgl lga lgp b0 hbG hj
  go_enter Tryd.func23, Tryd.ntmps23
  go_wp2_with fail
  generalize (w.alloc (.cells (dcells 4 S N n C W s k p r a t h) 48)) = w1 at *
  refine (hmod w1).mono ?_
  rintro e w2 ⟨rfl, rfl⟩
  clear hmod
  go_wp2_with fail
  refine (hmod2 w1).mono ?_
  rintro e w2 ⟨rfl, rfl⟩
  clear hmod2
  have hp4 : ∀ m, Calls Tryd.prog 38 #[.pointer (some ⟨b, 0, none⟩), .int .i64 Q, .int .i64 n, .int .i64 Q2] (w1.drewN m) fun e w' => e = .returned (.bool true) ∧ Ar w' b g c x sw ws' ∧ Touch [g] (w1.drewN m) w' := fun m => Hp.out _ (below_drewN HB0.out m)
  go_upto_region 13 with fail
  refine quiet_tail 8 mixed (by kernel_rfl) ?_
  simp only [List.take_succ_cons, List.take_zero, List.drop_succ_cons, List.drop_zero]
  repeat (go_big_quiet_step (fail))
  refine wpQuiet_nil ?_
  go_wp2_with fail
  refine (hp4 1).mono ?_
  rintro e w5 ⟨rfl, A5, t5⟩
  have T5 : Hid (Touch [g] w w5) := (Touch.of_below (below_drewN HB0.out 1) _).trans t5
  have ck : ∀ {q : Addr} {u : Value}, q.block ≠ g → w1.cell? q = some u → w5.cell? q = some u := fun hn hq => (World.cell?_of_block (w := w1.drewN 1) (t5.block _ (World.block_lt_of_cell? _ _ hq) (by simpa using hn))).trans hq
  obtain ⟨G1, G2, G3, G4, G5, G6⟩ := Hg.out
  have v3 : w5.cell? ⟨w.heap.size, 3, none⟩ = some (.int .i64 n) := ck (show w.heap.size ≠ g by omega) k3
  have v5 : w5.cell? ⟨w.heap.size, 5, none⟩ = some (.int .u64 W) := ck (show w.heap.size ≠ g by omega) k5
  have v9 : w5.cell? ⟨ga, i * 11 + 9, none⟩ = some (.slice (some ⟨GP, 0, none⟩) NP NP) := ck (show ga ≠ g from G2) y9
  have vg : w5.heap[GP]? = some (.cells cs 3 (0, 0)) := (t5.block GP (by have := HZ.out; show GP < w1.heap.size; omega) (by simpa using G3)).trans yg
  have HA5 : Hid (Ar w5 b g c x sw ws') := A5
  clear hp4 y0 y9 k0 k2 k3 k4 k5 t5 A5 ck yg G1 G2 G3 G4 G5 G6 u0
  have e1 : decide (0 ≤ (n : Int)) = true := decide_eq_true (by omega)
  have e2 : decide ((n : Int) < (NP : Int)) = true := decide_eq_true (by omega)
  go_upto_region 14 with fail
  refine quiet_tail 14 mixed (by kernel_rfl) ?_
  simp only [List.take_succ_cons, List.take_zero, List.drop_succ_cons, List.drop_zero]
  repeat (go_big_quiet_step (fail))
  refine wpQuiet_nil ?_
  have f3 : w5.drew.cell? ⟨w.heap.size, 3, none⟩ = some (.int .i64 n) := v3
  have f5 : w5.drew.cell? ⟨w.heap.size, 5, none⟩ = some (.int .u64 W) := v5
  have f9 : w5.drew.cell? ⟨ga, i * 11 + 9, none⟩ = some (.slice (some ⟨GP, 0, none⟩) NP NP) := v9
  have fg : w5.drew.heap[GP]? = some (.cells cs 3 (0, 0)) := vg
  have HA6 : Hid (Ar w5.drew b g c x sw ws') := HA5.out.below (below_drewN (Below.refl _ _) 1)
  have T6 : Hid (Touch [g] w w5.drew) := T5.out.trans (Touch.of_below (below_drewN (Below.refl _ w5) 1) _)
  clear v3 v5 v9 vg HA5 T5
  go_upto_region 17 with fail
  generalize w5.drew = w6 at *
  clear w5
  have fn : w6.cell? ⟨GP, n, none⟩ = some old := (cell_of_row _ _ n _ _ _ fg).trans hold
  have zn : w6.frozen? ⟨GP, n, none⟩ = false := by unfold World.frozen?; simp only [fg]; simp
  have Hfg : Hid (w6.heap[GP]? = some (.cells cs 3 (0, 0))) := fg
  clear fg
  refine quiet_tail 8 mixed (by kernel_rfl) ?_
  simp only [List.take_succ_cons, List.take_zero, List.drop_succ_cons, List.drop_zero]
  repeat (go_big_quiet_step (fail))
  refine wpQuiet_nil ?_
  go_wp2
  go_ret
  have tt : Touch [GP] w6 (w6.drew.setCell ⟨GP, n, none⟩ (.int .i64 Q2)) := (Touch.of_below (below_drewN (Below.refl _ w6) 1) _).trans (Touch.setCell _ _ _ (by simp))
  obtain ⟨G1, G2, G3, G4, G5, G6⟩ := Hg.out
  exact ⟨rfl, HA6.out.touch tt (by simpa using Ne.symm G6) (by simpa using Ne.symm G3), (T6.out.mono (fun q hq => .inl (by simp at hq ⊢; exact .inl hq))).trans (tt.mono (fun q hq => .inl (by simp at hq ⊢; exact .inr hq))), set_atH (w := w6.drew) Hfg.out n _⟩

end Go.Proofs.YtbdkcelggffneaaDoor
