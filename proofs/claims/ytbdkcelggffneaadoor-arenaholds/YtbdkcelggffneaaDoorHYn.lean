/-
  changed, where SetHead, SetPtr or SetRaw says no: of one thing.
-/
import Derived.Test.YtbdkcelggffneaaDoorHYh
set_option linter.unusedVariables false
set_option maxRecDepth 20000
namespace Go.Proofs.YtbdkcelggffneaaDoor
open Go.RowKit Go.Shelf

set_option maxHeartbeats 8000000 in
theorem changed_raw_none (b g ga L cap : Nat) (c : Cfg) (x : Tps) (sw : Bool) (ws ws' : Nat → Int) (S N C W s k p r a t : Int) (h : Bool) (B : Int) (NP GP : Nat) (hn : B < 0 ∨ (NP : Int) ≤ B) (hNP : NP ≤ 1000000) (w : World) (i : Nat) (hi : i < L) (hL : L ≤ 1000000) (Q : Int)
    (h0 : w.cell? ⟨ga, i * 11, none⟩ = some (.int .i64 Q)) (h9 : w.cell? ⟨ga, i * 11 + 10, none⟩ = some (.slice (some ⟨GP, 0, none⟩) NP NP))
    (hga : ga ≠ g) (hGP : GP ≠ g) (hgl : g < w.heap.size) 
    (hmod : ∀ w1, Calls Tryd.prog 13 #[.int .i64 N, .int .i64 L] w1 fun e w' => e = .returned (.int .i64 i) ∧ w1 = w')
    (hp : ∀ w1, Below w.heap.size w w1 → Calls Tryd.prog 39 #[.pointer (some ⟨b, 0, none⟩), .int .i64 Q, .int .i64 B, .int .u64 W] w1 fun e w' => e = .returned (.bool false) ∧ Below w1.heap.size w1 w') (hbG : GP ≠ b) :
    Calls Tryd.prog 23 #[.pointer (some ⟨b, 0, none⟩), .slice (some ⟨ga, 0, none⟩) L cap, dv 5 S N B C W s k p r a t h] w fun e w' => e = .returned (.bool true) ∧ Below w.heap.size w w' := by
  have b0 : Below w.heap.size w (w.alloc (.cells (dcells 5 S N B C W s k p r a t h) 48)) := Below.alloc (Below.refl _ _) (Nat.le_refl _) _
  have d0 := Dc.new w (dcells 5 S N B C W s k p r a t h)
  have cl : ∀ {q : Addr} {u : Value}, w.cell? q = some u → (w.alloc (.cells (dcells 5 S N B C W s k p r a t h) 48)).cell? q = some u := fun hq => (b0.cell (World.block_lt_of_cell? _ _ hq)).trans hq
  have y0 := cl h0
  have y9 := cl h9
  have lga : ga < w.heap.size := World.block_lt_of_cell? _ _ h0
  have HZ : Hid ((w.alloc (.cells (dcells 5 S N B C W s k p r a t h) 48)).heap.size = w.heap.size + 1) := by show _ = _; simp
  have k0 : (w.alloc (.cells (dcells 5 S N B C W s k p r a t h) 48)).cell? ⟨w.heap.size, 0, none⟩ = some (.int .i64 5) := d0.cell 0
  have k2 : (w.alloc (.cells (dcells 5 S N B C W s k p r a t h) 48)).cell? ⟨w.heap.size, 2, none⟩ = some (.int .i64 N) := d0.cell 2
  have k3 : (w.alloc (.cells (dcells 5 S N B C W s k p r a t h) 48)).cell? ⟨w.heap.size, 3, none⟩ = some (.int .i64 B) := d0.cell 3
  have k4 : (w.alloc (.cells (dcells 5 S N B C W s k p r a t h) 48)).cell? ⟨w.heap.size, 4, none⟩ = some (.int .i64 C) := d0.cell 4
  have k5 : (w.alloc (.cells (dcells 5 S N B C W s k p r a t h) 48)).cell? ⟨w.heap.size, 5, none⟩ = some (.int .u64 W) := d0.cell 5
  have Hp : Hid (∀ w1, Below w.heap.size w w1 → Calls Tryd.prog 39 #[.pointer (some ⟨b, 0, none⟩), .int .i64 Q, .int .i64 B, .int .u64 W] w1 fun e w' => e = .returned (.bool false) ∧ Below w1.heap.size w1 w') := hp
  have Hg : Hid (g < w.heap.size ∧ ga ≠ g ∧ GP ≠ g ∧ ga < w.heap.size ∧ GP ≠ b) := ⟨hgl, hga, hGP, lga, hbG⟩
  have HB0 : Hid (Below w.heap.size w (w.alloc (.cells (dcells 5 S N B C W s k p r a t h) 48))) := b0
  have hil : (i : Int) < (L : Int) := by omega
  clear hp h0 h9 cl d0 hga hGP hgl lga b0 hbG
  go_enter Tryd.func23, Tryd.ntmps23
  go_wp2_with fail
  generalize (w.alloc (.cells (dcells 5 S N B C W s k p r a t h) 48)) = w1 at *
  refine (hmod w1).mono ?_
  rintro e w2 ⟨rfl, rfl⟩
  clear hmod
  have hp4 : ∀ m, Calls Tryd.prog 39 #[.pointer (some ⟨b, 0, none⟩), .int .i64 Q, .int .i64 B, .int .u64 W] (w1.drewN m) fun e w' => e = .returned (.bool false) ∧ Below (w1.drewN m).heap.size (w1.drewN m) w' := fun m => Hp.out _ (below_drewN HB0.out m)
  go_upto_region 19 with fail
  refine quiet_tail 9 mixed (by kernel_rfl) ?_
  simp only [List.take_succ_cons, List.take_zero, List.drop_succ_cons, List.drop_zero]
  repeat (go_big_quiet_step (fail))
  refine wpQuiet_nil ?_
  go_wp2_with fail
  refine (hp4 1).mono ?_
  rintro e w5 ⟨rfl, l5⟩
  have b5 : Hid (Below w.heap.size w w5) := (below_drewN HB0.out 1).trans (l5.mono (below_drewN HB0.out 1).size)
  have v3 : w5.cell? ⟨w.heap.size, 3, none⟩ = some (.int .i64 B) := (l5.cell (World.block_lt_of_cell? _ _ k3)).trans k3
  have v9 : w5.cell? ⟨ga, i * 11 + 10, none⟩ = some (.slice (some ⟨GP, 0, none⟩) NP NP) := (l5.cell (World.block_lt_of_cell? _ _ y9)).trans y9
  clear hp4 y0 y9 k0 k2 k3 k4 k5 l5
  go_upto_region 20 with fail
  by_cases hb0 : B < 0
  · have e1 : decide (0 ≤ B) = false := decide_eq_false (by omega)
    refine quiet_tail 14 mixed (by kernel_rfl) ?_
    simp only [List.take_succ_cons, List.take_zero, List.drop_succ_cons, List.drop_zero]
    repeat (go_big_quiet_step (fail))
    refine wpQuiet_nil ?_
    go_wp2
    go_ret
    exact ⟨rfl, below_drewN b5.out 1⟩
  · have e1 : decide (0 ≤ B) = true := decide_eq_true (by omega)
    have e2 : decide (B < (NP : Int)) = false := decide_eq_false (by omega)
    refine quiet_tail 14 mixed (by kernel_rfl) ?_
    simp only [List.take_succ_cons, List.take_zero, List.drop_succ_cons, List.drop_zero]
    repeat (go_big_quiet_step (fail))
    refine wpQuiet_nil ?_
    go_wp2
    go_ret
    exact ⟨rfl, below_drewN b5.out 1⟩

set_option maxHeartbeats 8000000 in
theorem changed_ptr_none (b g ga L cap : Nat) (c : Cfg) (x : Tps) (sw : Bool) (ws ws' : Nat → Int) (S N C W s k p r a t : Int) (h : Bool) (B : Int) (NP GP : Nat) (hn : B < 0 ∨ (NP : Int) ≤ B) (hNP : NP ≤ 1000000) (w : World) (i : Nat) (hi : i < L) (hL : L ≤ 1000000) (Q : Int)
    (h0 : w.cell? ⟨ga, i * 11, none⟩ = some (.int .i64 Q)) (h9 : w.cell? ⟨ga, i * 11 + 9, none⟩ = some (.slice (some ⟨GP, 0, none⟩) NP NP))
    (hga : ga ≠ g) (hGP : GP ≠ g) (hgl : g < w.heap.size) (j : Nat) (Q2 : Int) (hj : w.cell? ⟨ga, j * 11, none⟩ = some (.int .i64 Q2)) (hmod2 : ∀ w1, Calls Tryd.prog 13 #[.int .i64 C, .int .i64 L] w1 fun e w' => e = .returned (.int .i64 j) ∧ w1 = w') (hjl : j < L) 
    (hmod : ∀ w1, Calls Tryd.prog 13 #[.int .i64 N, .int .i64 L] w1 fun e w' => e = .returned (.int .i64 i) ∧ w1 = w')
    (hp : ∀ w1, Below w.heap.size w w1 → Calls Tryd.prog 38 #[.pointer (some ⟨b, 0, none⟩), .int .i64 Q, .int .i64 B, .int .i64 Q2] w1 fun e w' => e = .returned (.bool false) ∧ Below w1.heap.size w1 w') (hbG : GP ≠ b) :
    Calls Tryd.prog 23 #[.pointer (some ⟨b, 0, none⟩), .slice (some ⟨ga, 0, none⟩) L cap, dv 4 S N B C W s k p r a t h] w fun e w' => e = .returned (.bool true) ∧ Below w.heap.size w w' := by
  have b0 : Below w.heap.size w (w.alloc (.cells (dcells 4 S N B C W s k p r a t h) 48)) := Below.alloc (Below.refl _ _) (Nat.le_refl _) _
  have d0 := Dc.new w (dcells 4 S N B C W s k p r a t h)
  have cl : ∀ {q : Addr} {u : Value}, w.cell? q = some u → (w.alloc (.cells (dcells 4 S N B C W s k p r a t h) 48)).cell? q = some u := fun hq => (b0.cell (World.block_lt_of_cell? _ _ hq)).trans hq
  have y0 := cl h0
  have y9 := cl h9
  have u0 := cl hj
  have lga : ga < w.heap.size := World.block_lt_of_cell? _ _ h0
  have HZ : Hid ((w.alloc (.cells (dcells 4 S N B C W s k p r a t h) 48)).heap.size = w.heap.size + 1) := by show _ = _; simp
  have k0 : (w.alloc (.cells (dcells 4 S N B C W s k p r a t h) 48)).cell? ⟨w.heap.size, 0, none⟩ = some (.int .i64 4) := d0.cell 0
  have k2 : (w.alloc (.cells (dcells 4 S N B C W s k p r a t h) 48)).cell? ⟨w.heap.size, 2, none⟩ = some (.int .i64 N) := d0.cell 2
  have k3 : (w.alloc (.cells (dcells 4 S N B C W s k p r a t h) 48)).cell? ⟨w.heap.size, 3, none⟩ = some (.int .i64 B) := d0.cell 3
  have k4 : (w.alloc (.cells (dcells 4 S N B C W s k p r a t h) 48)).cell? ⟨w.heap.size, 4, none⟩ = some (.int .i64 C) := d0.cell 4
  have k5 : (w.alloc (.cells (dcells 4 S N B C W s k p r a t h) 48)).cell? ⟨w.heap.size, 5, none⟩ = some (.int .u64 W) := d0.cell 5
  have Hp : Hid (∀ w1, Below w.heap.size w w1 → Calls Tryd.prog 38 #[.pointer (some ⟨b, 0, none⟩), .int .i64 Q, .int .i64 B, .int .i64 Q2] w1 fun e w' => e = .returned (.bool false) ∧ Below w1.heap.size w1 w') := hp
  have Hg : Hid (g < w.heap.size ∧ ga ≠ g ∧ GP ≠ g ∧ ga < w.heap.size ∧ GP ≠ b) := ⟨hgl, hga, hGP, lga, hbG⟩
  have HB0 : Hid (Below w.heap.size w (w.alloc (.cells (dcells 4 S N B C W s k p r a t h) 48))) := b0
  have hil : (i : Int) < (L : Int) := by omega
  have hjl2 : (j : Int) < (L : Int) := by omega
  clear hp h0 h9 cl d0 hga hGP hgl lga b0 hbG hj
  go_enter Tryd.func23, Tryd.ntmps23
  go_wp2_with fail
  generalize (w.alloc (.cells (dcells 4 S N B C W s k p r a t h) 48)) = w1 at *
  refine (hmod w1).mono ?_
  rintro e w2 ⟨rfl, rfl⟩
  clear hmod
  go_wp2_with fail
  refine (hmod2 w1).mono ?_
  rintro e w2 ⟨rfl, rfl⟩
  clear hmod2
  have hp4 : ∀ m, Calls Tryd.prog 38 #[.pointer (some ⟨b, 0, none⟩), .int .i64 Q, .int .i64 B, .int .i64 Q2] (w1.drewN m) fun e w' => e = .returned (.bool false) ∧ Below (w1.drewN m).heap.size (w1.drewN m) w' := fun m => Hp.out _ (below_drewN HB0.out m)
  go_upto_region 13 with fail
  refine quiet_tail 8 mixed (by kernel_rfl) ?_
  simp only [List.take_succ_cons, List.take_zero, List.drop_succ_cons, List.drop_zero]
  repeat (go_big_quiet_step (fail))
  refine wpQuiet_nil ?_
  go_wp2_with fail
  refine (hp4 1).mono ?_
  rintro e w5 ⟨rfl, l5⟩
  have b5 : Hid (Below w.heap.size w w5) := (below_drewN HB0.out 1).trans (l5.mono (below_drewN HB0.out 1).size)
  have v3 : w5.cell? ⟨w.heap.size, 3, none⟩ = some (.int .i64 B) := (l5.cell (World.block_lt_of_cell? _ _ k3)).trans k3
  have v9 : w5.cell? ⟨ga, i * 11 + 9, none⟩ = some (.slice (some ⟨GP, 0, none⟩) NP NP) := (l5.cell (World.block_lt_of_cell? _ _ y9)).trans y9
  clear hp4 y0 y9 k0 k2 k3 k4 k5 l5 u0
  go_upto_region 14 with fail
  by_cases hb0 : B < 0
  · have e1 : decide (0 ≤ B) = false := decide_eq_false (by omega)
    refine quiet_tail 14 mixed (by kernel_rfl) ?_
    simp only [List.take_succ_cons, List.take_zero, List.drop_succ_cons, List.drop_zero]
    repeat (go_big_quiet_step (fail))
    refine wpQuiet_nil ?_
    go_wp2
    go_ret
    exact ⟨rfl, below_drewN b5.out 1⟩
  · have e1 : decide (0 ≤ B) = true := decide_eq_true (by omega)
    have e2 : decide (B < (NP : Int)) = false := decide_eq_false (by omega)
    refine quiet_tail 14 mixed (by kernel_rfl) ?_
    simp only [List.take_succ_cons, List.take_zero, List.drop_succ_cons, List.drop_zero]
    repeat (go_big_quiet_step (fail))
    refine wpQuiet_nil ?_
    go_wp2
    go_ret
    exact ⟨rfl, below_drewN b5.out 1⟩

set_option maxHeartbeats 8000000 in
theorem changed_head_none (b g ga L cap : Nat) (c : Cfg) (x : Tps) (sw : Bool) (ws ws' : Nat → Int) (S N B C W s k p r a t : Int) (h : Bool) (w : World) (i : Nat) (hi : i < L) (hL : L ≤ 1000000) (Q P1 R1 : Int) (cs : Array Value)
    (h0 : w.cell? ⟨ga, i * 11, none⟩ = some (.int .i64 Q)) (h4 : w.cell? ⟨ga, i * 11 + 4, none⟩ = some (.int .i64 P1)) (h5 : w.cell? ⟨ga, i * 11 + 5, none⟩ = some (.int .i64 R1)) (hg : w.heap[ga]? = some (.cells cs 81 (0, 0))) (hsz : i * 11 + 11 ≤ cs.size)
    (hga : ga ≠ g) (hgl : g < w.heap.size) (hbG : ga ≠ b)
    (hmod : ∀ w1, Calls Tryd.prog 13 #[.int .i64 N, .int .i64 L] w1 fun e w' => e = .returned (.int .i64 i) ∧ w1 = w')
    (hp : ∀ w1, Below w.heap.size w w1 → Calls Tryd.prog 37 #[.pointer (some ⟨b, 0, none⟩), .int .i64 Q, hv s k P1 R1 a t h] w1 fun e w' => e = .returned (.bool false) ∧ Below w1.heap.size w1 w') :
    Calls Tryd.prog 23 #[.pointer (some ⟨b, 0, none⟩), .slice (some ⟨ga, 0, none⟩) L cap, dv 3 S N B C W s k p r a t h] w fun e w' => e = .returned (.bool true) ∧ Below w.heap.size w w' := by
  have b0 : Below w.heap.size w (w.alloc (.cells (dcells 3 S N B C W s k p r a t h) 48)) := Below.alloc (Below.refl _ _) (Nat.le_refl _) _
  have d0 := Dc.new w (dcells 3 S N B C W s k p r a t h)
  have cl : ∀ {q : Addr} {u : Value}, w.cell? q = some u → (w.alloc (.cells (dcells 3 S N B C W s k p r a t h) 48)).cell? q = some u := fun hq => (b0.cell (World.block_lt_of_cell? _ _ hq)).trans hq
  have y0 := cl h0
  have y4 := cl h4
  have y5 := cl h5
  have lga : ga < w.heap.size := (Array.getElem?_eq_some_iff.1 hg).1
  have yg : Hid ((w.alloc (.cells (dcells 3 S N B C W s k p r a t h) 48)).heap[ga]? = some (.cells cs 81 (0, 0))) := (b0.block ga lga).trans hg
  have k2 : (w.alloc (.cells (dcells 3 S N B C W s k p r a t h) 48)).cell? ⟨w.heap.size, 2, none⟩ = some (.int .i64 N) := d0.cell 2
  have Hp' : Hid (∀ w1, Below w.heap.size w w1 → Calls Tryd.prog 37 #[.pointer (some ⟨b, 0, none⟩), .int .i64 Q, hv s k P1 R1 a t h] w1 fun e w' => e = .returned (.bool false) ∧ Below w1.heap.size w1 w') := hp
  have Hg : Hid (g < w.heap.size ∧ ga ≠ g ∧ ga < w.heap.size ∧ ga ≠ b) := ⟨hgl, hga, lga, hbG⟩
  have hil : (i : Int) < (L : Int) := by omega
  clear hp h0 h4 h5 hg cl hga hgl lga hbG
  go_enter Tryd.func23, Tryd.ntmps23
  go_wp2_with fail
  clear k2
  generalize (w.alloc (.cells (dcells 3 S N B C W s k p r a t h) 48)) = w1 at *
  refine (hmod w1).mono ?_
  rintro e w2 ⟨rfl, rfl⟩
  clear hmod
  have HD : Hid (w.heap.size < w1.heap.size) := d0.lt
  have k0 : w1.cell? ⟨w.heap.size, 0, none⟩ = some (.int .i64 3) := d0.cell 0
  have k6 : w1.cell? ⟨w.heap.size, 6, none⟩ = some (.int .u64 s) := d0.cell 6
  have k7 : w1.cell? ⟨w.heap.size, 7, none⟩ = some (.int .i64 k) := d0.cell 7
  have k8 : w1.cell? ⟨w.heap.size, 8, none⟩ = some (.int .i64 p) := d0.cell 8
  have k9 : w1.cell? ⟨w.heap.size, 9, none⟩ = some (.int .i64 r) := d0.cell 9
  have k10 : w1.cell? ⟨w.heap.size, 10, none⟩ = some (.int .i64 a) := d0.cell 10
  have k11 : w1.cell? ⟨w.heap.size, 11, none⟩ = some (.int .i64 t) := d0.cell 11
  have k12 : w1.cell? ⟨w.heap.size, 12, none⟩ = some (.bool h) := d0.cell 12
  go_upto_region 6 with fail
  clear k0 k6 k7 k8 k9 k10 k11 k12
  have h2 : Hb (w1.alloc (.cells (hcells s k p r a t h) 46)) w1.heap.size (hcells s k p r a t h) := ⟨heap_alloc_new w1 _⟩
  have l2 : Below w1.heap.size w1 (w1.alloc (.cells (hcells s k p r a t h) 46)) := Below.alloc (Below.refl _ _) (Nat.le_refl _) _
  have b2 := b0.trans (l2.mono b0.size)
  have cl : ∀ {q : Addr} {u : Value}, w1.cell? q = some u → (w1.alloc (.cells (hcells s k p r a t h) 46)).cell? q = some u := fun hq => (l2.cell (World.block_lt_of_cell? _ _ hq)).trans hq
  have c0 := cl y0
  have c4 := cl y4
  have c5 := cl y5
  have yg2 : Hid ((w1.alloc (.cells (hcells s k p r a t h) 46)).heap[ga]? = some (.cells cs 81 (0, 0))) := (l2.block ga (Array.getElem?_eq_some_iff.1 yg.out).1).trans yg.out
  clear l2 b0 d0 y0 y4 y5 cl yg
  generalize (w1.alloc (.cells (hcells s k p r a t h) 46)) = w2 at *
  generalize w1.heap.size = HR at *
  have hne : ga ≠ HR := by have := Hg.out.2.2.1; have := HD.out; omega
  have hge : w.heap.size ≤ HR := Nat.le_of_lt HD.out
  have x2 : w2.cell? ⟨HR, 2, none⟩ = some (.int .i64 p) := h2.cellAt 2
  have z2 := h2.frozenAt 2
  go_upto_region 7 with fail
  clear x2 z2 c4
  have h3 : Hb (w2.setCell ⟨HR, 2, none⟩ (.int .i64 P1)) HR (hcells s k P1 r a t h) := by simpa using h2.setAt 2 (.int .i64 P1)
  have b3 : Below w.heap.size w (w2.setCell ⟨HR, 2, none⟩ (.int .i64 P1)) := Below.setCell b2 hge _
  have ck : ∀ {j : Nat} {u : Value}, w2.cell? ⟨ga, j, none⟩ = some u → (w2.setCell ⟨HR, 2, none⟩ (.int .i64 P1)).cell? ⟨ga, j, none⟩ = some u := fun hq => (World.cell?_of_block (w := w2) (Below.heap_setCell _ _ _ _ hne)).trans hq
  have e0 := ck c0
  have e5 := ck c5
  have yg3 : Hid ((w2.setCell ⟨HR, 2, none⟩ (.int .i64 P1)).heap[ga]? = some (.cells cs 81 (0, 0))) := (Below.heap_setCell _ _ _ _ hne).trans yg2.out
  clear h2 b2 c0 c5 ck yg2
  generalize w2.setCell ⟨HR, 2, none⟩ (.int .i64 P1) = w3 at *
  have x3 : w3.cell? ⟨HR, 3, none⟩ = some (.int .i64 r) := h3.cellAt 3
  have z3 := h3.frozenAt 3
  go_upto_region 8 with fail
  clear x3 z3 e5
  have h4 : Hb (w3.setCell ⟨HR, 3, none⟩ (.int .i64 R1)) HR (hcells s k P1 R1 a t h) := by simpa using h3.setAt 3 (.int .i64 R1)
  have b4 : Below w.heap.size w (w3.setCell ⟨HR, 3, none⟩ (.int .i64 R1)) := Below.setCell b3 hge _
  have y0 : (w3.setCell ⟨HR, 3, none⟩ (.int .i64 R1)).cell? ⟨ga, i * 11, none⟩ = some (.int .i64 Q) := (World.cell?_of_block (w := w3) (Below.heap_setCell _ _ _ _ hne)).trans e0
  have yg4 : Hid ((w3.setCell ⟨HR, 3, none⟩ (.int .i64 R1)).heap[ga]? = some (.cells cs 81 (0, 0))) := (Below.heap_setCell _ _ _ _ hne).trans yg3.out
  clear h3 b3 e0 yg3
  generalize w3.setCell ⟨HR, 3, none⟩ (.int .i64 R1) = w4 at *
  have hp4 : ∀ n, Calls Tryd.prog 37 #[.pointer (some ⟨b, 0, none⟩), .int .i64 Q, hv s k P1 R1 a t h] (w4.drewN n) fun e w' => e = .returned (.bool false) ∧ Below (w4.drewN n).heap.size (w4.drewN n) w' := fun n => Hp'.out _ (below_drewN b4 n)
  have x0 : w4.cell? ⟨HR, 0, none⟩ = some (.int .u64 s) := h4.cellAt 0
  have x1 : w4.cell? ⟨HR, 1, none⟩ = some (.int .i64 k) := h4.cellAt 1
  have x2 : w4.cell? ⟨HR, 2, none⟩ = some (.int .i64 P1) := h4.cellAt 2
  have x3 : w4.cell? ⟨HR, 3, none⟩ = some (.int .i64 R1) := h4.cellAt 3
  have x4 : w4.cell? ⟨HR, 4, none⟩ = some (.int .i64 a) := h4.cellAt 4
  have x5 : w4.cell? ⟨HR, 5, none⟩ = some (.int .i64 t) := h4.cellAt 5
  have x6 : w4.cell? ⟨HR, 6, none⟩ = some (.bool h) := h4.cellAt 6
  refine quiet_tail 6 mixed (by kernel_rfl) ?_
  simp only [List.take_succ_cons, List.take_zero, List.drop_succ_cons, List.drop_zero]
  repeat (go_big_quiet_step (fail))
  refine wpQuiet_nil ?_
  go_wp2_with fail
  refine (hp4 1).mono ?_
  rintro e w5 ⟨rfl, l5⟩
  have b5 : Hid (Below w.heap.size w w5) := (below_drewN b4 1).trans (l5.mono (below_drewN b4 1).size)
  clear hp4 y0 x0 x1 x2 x3 x4 x5 x6 l5 h4 b4 yg4
  go_wp2
  go_ret
  exact ⟨rfl, b5.out⟩

theorem mod_det (n : Int) (k : Nat) (hn : -9223372036854775808 ≤ n ∧ n ≤ 9223372036854775807) (hk : 0 < k ∧ k ≤ 4294967296) :
    ∃ m : Nat, m < k ∧ ∀ w, Calls Tryd.prog 13 #[.int .i64 n, .int .i64 k] w fun e w' => e = .returned (.int .i64 m) ∧ w = w' := by
  obtain ⟨n0, n1⟩ := hn
  obtain ⟨k0', k1'⟩ := hk
  have k0 : (0 : Int) < (k : Int) := by omega
  have k1 : (k : Int) ≤ 4294967296 := by omega
  generalize hkk : (k : Int) = kk at *
  have h1 : -kk < n.tmod kk := by have := Int.lt_tmod_of_pos n k0; omega
  have h2 : n.tmod kk < kk := Int.tmod_lt_of_pos n k0
  have hz : ¬ kk = 0 := by omega
  have h3 : 0 ≤ n.tmod kk + kk := by omega
  have h5 := Int.emod_nonneg (n.tmod kk + kk) hz
  have h6 := Int.emod_lt_of_pos (n.tmod kk + kk) k0
  refine ⟨((n.tmod kk + kk) % kk).toNat, by omega, fun w => ?_⟩
  have h7 : ((((n.tmod kk + kk) % kk).toNat : Nat) : Int) = (n.tmod kk + kk) % kk := Int.toNat_of_nonneg h5
  have H7 : Hid (((((n.tmod kk + kk) % kk).toNat : Nat) : Int) = (n.tmod kk + kk) % kk) := h7
  clear h7 h5 h6 hkk
  go_enter Tryd.func13, Tryd.ntmps13
  go_wp2
  go_ret
  exact ⟨by rw [H7.out]; rfl, rfl⟩

end Go.Proofs.YtbdkcelggffneaaDoor
