import Derived.Test.YtbdkcelggffneaaDoorHO
/-
  changed, of a kind that changes nothing.
-/
set_option linter.unusedVariables false
namespace Go.Proofs.YtbdkcelggffneaaDoor
open Go.RowKit Go.Shelf

set_option maxHeartbeats 4000000 in
theorem changed_none (b ga L cap : Nat) (K S N B C W s k p r a t : Int) (h : Bool) (hN : -9223372036854775808 ≤ N ∧ N ≤ 9223372036854775807) (hL : 0 < L ∧ L ≤ 4294967296) (h3 : K ≠ 3) (h4 : K ≠ 4) (h5 : K ≠ 5) (w : World) :
    Calls Tryd.prog 23 #[.pointer (some ⟨b, 0, none⟩), .slice (some ⟨ga, 0, none⟩) L cap, dv K S N B C W s k p r a t h] w fun e w' => e = .returned (.bool true) ∧ Below w.heap.size w w' := by
  have b0 : Below w.heap.size w (w.alloc (.cells (dcells K S N B C W s k p r a t h) 48)) := Below.alloc (Below.refl _ _) (Nat.le_refl _) _
  have d0 := Dc.new w (dcells K S N B C W s k p r a t h)
  have hm := mod_any N L hN (by omega) (w.alloc (.cells (dcells K S N B C W s k p r a t h) 48))
  have k0 : (w.alloc (.cells (dcells K S N B C W s k p r a t h) 48)).cell? ⟨w.heap.size, 0, none⟩ = some (.int .i64 K) := d0.cell 0
  have k2 : (w.alloc (.cells (dcells K S N B C W s k p r a t h) 48)).cell? ⟨w.heap.size, 2, none⟩ = some (.int .i64 N) := d0.cell 2
  clear d0
  go_enter Tryd.func23, Tryd.ntmps23
  go_wp2_with fail
  generalize (w.alloc (.cells (dcells K S N B C W s k p r a t h) 48)) = w1 at *
  refine hm.mono ?_
  rintro e w2 ⟨m, rfl, hm0, hm1, rfl⟩
  clear hm
  obtain ⟨i, rfl⟩ := Int.eq_ofNat_of_zero_le hm0
  have hi : i < L := by omega
  go_wp2
  go_ret
  exact ⟨rfl, b0⟩

end Go.Proofs.YtbdkcelggffneaaDoor

/-
  changed by SetHead.
-/
set_option linter.unusedVariables false
namespace Go.Proofs.YtbdkcelggffneaaDoor
open Go.RowKit Go.Shelf

/-- The thing number i of the row in ga has these cells. -/
structure Thi (w : World) (ga i : Nat) (cs : Array Value) : Prop where
  cell : ∀ j, j < 11 → w.cell? ⟨ga, i * 11 + j, none⟩ = cs[j]?
  lt : ga < w.heap.size

theorem Thi.below {w w' : World} {ga i : Nat} {cs : Array Value} (h : Thi w ga i cs) (l : Below w.heap.size w w') : Thi w' ga i cs :=
  ⟨fun j hj => (l.cell h.lt).trans (h.cell j hj), Nat.lt_of_lt_of_le h.lt l.size⟩

theorem Hb.setAt {w : World} {R : Nat} {cs : Array Value} (h : Hb w R cs) (j : Nat) (v : Value) : Hb (w.setCell ⟨R, j, none⟩ v) R (cs.set! j v) := ⟨by simp [World.setCell, Array.getElem?_modify, h.at_]⟩
theorem Hb.lt' {w : World} {R : Nat} {cs : Array Value} (h : Hb w R cs) : R < w.heap.size := (Array.getElem?_eq_some_iff.1 h.at_).1
theorem Hb.frozenAt {w : World} {R : Nat} {cs : Array Value} (h : Hb w R cs) (j : Nat) : w.frozen? ⟨R, j, none⟩ = false := by unfold World.frozen?; simp only [h.at_]; simp
theorem Hb.cellAt {w : World} {R : Nat} {cs : Array Value} (h : Hb w R cs) (j : Nat) : w.cell? ⟨R, j, none⟩ = cs[j]? := cell_of_row _ _ j _ _ _ h.at_
theorem Thi.set {w : World} {ga i R j : Nat} {cs : Array Value} {v : Value} (h : Thi w ga i cs) (hR : ga ≠ R) : Thi (w.setCell ⟨R, j, none⟩ v) ga i cs :=
  ⟨fun n hn => (World.cell?_of_block (w := w) (Below.heap_setCell _ _ _ _ hR)).trans (h.cell n hn), by have := h.lt; simpa [World.setCell] using this⟩

set_option maxHeartbeats 4000000 in
theorem changed_head_no (b ga L cap : Nat) (S N B C W s k p r a t : Int) (h : Bool) (hN : -9223372036854775808 ≤ N ∧ N ≤ 9223372036854775807) (hL : 0 < L ∧ L ≤ 4294967296) (f : Nat → Array Value) (q P R : Nat → Int) (hq : ∀ i, (f i)[0]? = some (.int .i64 (q i)) ∧ (f i)[4]? = some (.int .i64 (P i)) ∧ (f i)[5]? = some (.int .i64 (R i))) (w : World) (hth : ∀ i, i < L → Thi w ga i (f i))
    (hp : ∀ i, i < L → ∀ w1, Below w.heap.size w w1 → Calls Tryd.prog 37 #[.pointer (some ⟨b, 0, none⟩), .int .i64 (q i), hv s k (P i) (R i) a t h] w1 fun e w' => e = .returned (.bool false) ∧ Below w1.heap.size w1 w') :
    Calls Tryd.prog 23 #[.pointer (some ⟨b, 0, none⟩), .slice (some ⟨ga, 0, none⟩) L cap, dv 3 S N B C W s k p r a t h] w fun e w' => e = .returned (.bool true) ∧ Below w.heap.size w w' := by
  have b0 : Below w.heap.size w (w.alloc (.cells (dcells 3 S N B C W s k p r a t h) 48)) := Below.alloc (Below.refl _ _) (Nat.le_refl _) _
  have d0 := Dc.new w (dcells 3 S N B C W s k p r a t h)
  have hm := mod_any N L hN (by omega) (w.alloc (.cells (dcells 3 S N B C W s k p r a t h) 48))
  have Hth : Hid (∀ i, i < L → Thi w ga i (f i)) := hth
  have Hp : Hid (∀ i, i < L → ∀ w1, Below w.heap.size w w1 → Calls Tryd.prog 37 #[.pointer (some ⟨b, 0, none⟩), .int .i64 (q i), hv s k (P i) (R i) a t h] w1 fun e w' => e = .returned (.bool false) ∧ Below w1.heap.size w1 w') := hp
  clear hth hp
  have k2 : (w.alloc (.cells (dcells 3 S N B C W s k p r a t h) 48)).cell? ⟨w.heap.size, 2, none⟩ = some (.int .i64 N) := d0.cell 2
  go_enter Tryd.func23, Tryd.ntmps23
  go_wp2_with fail
  clear k2
  generalize (w.alloc (.cells (dcells 3 S N B C W s k p r a t h) 48)) = w1 at *
  refine hm.mono ?_
  rintro e w2 ⟨m, rfl, hm0, hm1, rfl⟩
  clear hm
  obtain ⟨i, rfl⟩ := Int.eq_ofNat_of_zero_le hm0
  have hi : i < L := by omega
  have th1 : Thi w1 ga i (f i) := (Hth.out i hi).below b0
  have Hp' : Hid (∀ w1, Below w.heap.size w w1 → Calls Tryd.prog 37 #[.pointer (some ⟨b, 0, none⟩), .int .i64 (q i), hv s k (P i) (R i) a t h] w1 fun e w' => e = .returned (.bool false) ∧ Below w1.heap.size w1 w') := Hp.out i hi
  obtain ⟨f0, f4, f5⟩ := hq i
  clear Hp Hth hq
  generalize f i = F at *
  generalize q i = Q, P i = P1, R i = R1 at *
  have HD : Hid (w.heap.size < w1.heap.size) := d0.lt
  have HG : Hid (ga < w1.heap.size) := th1.lt
  have k0 : w1.cell? ⟨w.heap.size, 0, none⟩ = some (.int .i64 3) := d0.cell 0
  have k6 : w1.cell? ⟨w.heap.size, 6, none⟩ = some (.int .u64 s) := d0.cell 6
  have k7 : w1.cell? ⟨w.heap.size, 7, none⟩ = some (.int .i64 k) := d0.cell 7
  have k8 : w1.cell? ⟨w.heap.size, 8, none⟩ = some (.int .i64 p) := d0.cell 8
  have k9 : w1.cell? ⟨w.heap.size, 9, none⟩ = some (.int .i64 r) := d0.cell 9
  have k10 : w1.cell? ⟨w.heap.size, 10, none⟩ = some (.int .i64 a) := d0.cell 10
  have k11 : w1.cell? ⟨w.heap.size, 11, none⟩ = some (.int .i64 t) := d0.cell 11
  have k12 : w1.cell? ⟨w.heap.size, 12, none⟩ = some (.bool h) := d0.cell 12
  go_upto_region 6 with fail
  clear k0 k6 k7 k8 k9 k10 k11 k12
  have h2 : Hb (w1.alloc (.cells (hcells s k p r a t h) 46)) w1.heap.size (hcells s k p r a t h) := ⟨heap_alloc_new w1 _⟩
  have l2 : Below w1.heap.size w1 (w1.alloc (.cells (hcells s k p r a t h) 46)) := Below.alloc (Below.refl _ _) (Nat.le_refl _) _
  have b2 := b0.trans (l2.mono b0.size)
  have th2 := th1.below l2
  clear l2 b0 th1 d0
  generalize (w1.alloc (.cells (hcells s k p r a t h) 46)) = w2 at *
  generalize w1.heap.size = HR at *
  have hne : ga ≠ HR := by have := HG.out; omega
  have hge : w.heap.size ≤ HR := Nat.le_of_lt HD.out
  have y4 : w2.cell? ⟨ga, i * 11 + 4, none⟩ = some (.int .i64 P1) := (th2.cell 4 (by decide)).trans f4
  have x2 : w2.cell? ⟨HR, 2, none⟩ = some (.int .i64 p) := h2.cellAt 2
  have z2 := h2.frozenAt 2
  go_upto_region 7 with fail
  clear y4 x2 z2
  have h3 : Hb (w2.setCell ⟨HR, 2, none⟩ (.int .i64 P1)) HR (hcells s k P1 r a t h) := by simpa using h2.setAt 2 (.int .i64 P1)
  have th3 : Thi (w2.setCell ⟨HR, 2, none⟩ (.int .i64 P1)) ga i F := th2.set hne
  have b3 : Below w.heap.size w (w2.setCell ⟨HR, 2, none⟩ (.int .i64 P1)) := Below.setCell b2 hge _
  clear h2 th2 b2
  generalize w2.setCell ⟨HR, 2, none⟩ (.int .i64 P1) = w3 at *
  have y5 : w3.cell? ⟨ga, i * 11 + 5, none⟩ = some (.int .i64 R1) := (th3.cell 5 (by decide)).trans f5
  have x3 : w3.cell? ⟨HR, 3, none⟩ = some (.int .i64 r) := h3.cellAt 3
  have z3 := h3.frozenAt 3
  go_upto_region 8 with fail
  clear y5 x3 z3
  have h4 : Hb (w3.setCell ⟨HR, 3, none⟩ (.int .i64 R1)) HR (hcells s k P1 R1 a t h) := by simpa using h3.setAt 3 (.int .i64 R1)
  have th4 : Thi (w3.setCell ⟨HR, 3, none⟩ (.int .i64 R1)) ga i F := th3.set hne
  have b4 : Below w.heap.size w (w3.setCell ⟨HR, 3, none⟩ (.int .i64 R1)) := Below.setCell b3 hge _
  clear h3 th3 b3
  generalize w3.setCell ⟨HR, 3, none⟩ (.int .i64 R1) = w4 at *
  have hp4 : ∀ n, Calls Tryd.prog 37 #[.pointer (some ⟨b, 0, none⟩), .int .i64 Q, hv s k P1 R1 a t h] (w4.drewN n) fun e w' => e = .returned (.bool false) ∧ Below (w4.drewN n).heap.size (w4.drewN n) w' := fun n => Hp'.out _ (below_drewN b4 n)
  have y0 : w4.cell? ⟨ga, i * 11 + 0, none⟩ = some (.int .i64 Q) := (th4.cell 0 (by decide)).trans f0
  rw [Nat.add_zero] at y0
  have x0 : w4.cell? ⟨HR, 0, none⟩ = some (.int .u64 s) := h4.cellAt 0
  have x1 : w4.cell? ⟨HR, 1, none⟩ = some (.int .i64 k) := h4.cellAt 1
  have x2 : w4.cell? ⟨HR, 2, none⟩ = some (.int .i64 P1) := h4.cellAt 2
  have x3 : w4.cell? ⟨HR, 3, none⟩ = some (.int .i64 R1) := h4.cellAt 3
  have x4 : w4.cell? ⟨HR, 4, none⟩ = some (.int .i64 a) := h4.cellAt 4
  have x5 : w4.cell? ⟨HR, 5, none⟩ = some (.int .i64 t) := h4.cellAt 5
  have x6 : w4.cell? ⟨HR, 6, none⟩ = some (.bool h) := h4.cellAt 6
  refine quiet_tail 6 mixed (by kernel_rfl) ?_
  simp only [List.take_succ_cons, List.take_zero, List.drop_succ_cons, List.drop_zero]
  repeat (go_big_quiet_step (fail))
  refine wpQuiet_nil ?_
  go_wp2_with fail
  refine (hp4 1).mono ?_
  rintro e w5 ⟨rfl, l5⟩
  have b5 := (below_drewN b4 1).trans (l5.mono (below_drewN b4 1).size)
  clear hp4 y0 x0 x1 x2 x3 x4 x5 x6
  go_wp2
  go_ret
  exact ⟨rfl, b5⟩

end Go.Proofs.YtbdkcelggffneaaDoor

/-
  changed by SetPtr, where it says no.
-/
set_option linter.unusedVariables false
namespace Go.Proofs.YtbdkcelggffneaaDoor
open Go.RowKit Go.Shelf

set_option maxHeartbeats 4000000 in
theorem changed_ptr_no (b ga L cap : Nat) (S N B C W s k p r a t : Int) (h : Bool) (hN : -9223372036854775808 ≤ N ∧ N ≤ 9223372036854775807) (hC : -9223372036854775808 ≤ C ∧ C ≤ 9223372036854775807) (hL : 0 < L ∧ L ≤ 4294967296) (f : Nat → Array Value) (q : Nat → Int) (np gp : Nat → Nat) (hq : ∀ i, (f i)[0]? = some (.int .i64 (q i)) ∧ (f i)[9]? = some (.slice (some ⟨gp i, 0, none⟩) (np i) (np i))) (w : World) (hth : ∀ i, i < L → Thi w ga i (f i))
    (hp : ∀ i j, i < L → j < L → (∀ w1, Below w.heap.size w w1 → Calls Tryd.prog 38 #[.pointer (some ⟨b, 0, none⟩), .int .i64 (q i), .int .i64 B, .int .i64 (q j)] w1 fun e w' => e = .returned (.bool false) ∧ Below w1.heap.size w1 w'))
    (hB : ∀ i, i < L → (B < 0 ∨ (np i : Int) ≤ B)) (m : Int) (i : Nat) (hm : m = i) (hi : i < L)
    (hmod : ∀ w1, Calls Tryd.prog 13 #[.int .i64 N, .int .i64 L] w1 fun e w' => e = .returned (.int .i64 i) ∧ w1 = w') (j : Nat) (hj : j < L) (hmod2 : ∀ w1, Calls Tryd.prog 13 #[.int .i64 C, .int .i64 L] w1 fun e w' => e = .returned (.int .i64 j) ∧ w1 = w') :
    Calls Tryd.prog 23 #[.pointer (some ⟨b, 0, none⟩), .slice (some ⟨ga, 0, none⟩) L cap, dv 4 S N B C W s k p r a t h] w fun e w' => e = .returned (.bool true) ∧ Below w.heap.size w w' := by
  have b0 : Below w.heap.size w (w.alloc (.cells (dcells 4 S N B C W s k p r a t h) 48)) := Below.alloc (Below.refl _ _) (Nat.le_refl _) _
  have d0 := Dc.new w (dcells 4 S N B C W s k p r a t h)
  have ti : Thi (w.alloc (.cells (dcells 4 S N B C W s k p r a t h) 48)) ga i (f i) := (hth i hi).below b0
  have tj : Thi (w.alloc (.cells (dcells 4 S N B C W s k p r a t h) 48)) ga j (f j) := (hth j hj).below b0
  have Hp : Hid (∀ w1, Below w.heap.size w w1 → Calls Tryd.prog 38 #[.pointer (some ⟨b, 0, none⟩), .int .i64 (q i), .int .i64 B, .int .i64 (q j)] w1 fun e w' => e = .returned (.bool false) ∧ Below w1.heap.size w1 w') := hp i j hi hj
  have hB' := hB i hi
  obtain ⟨f0, f9⟩ := hq i
  obtain ⟨g0, -⟩ := hq j
  have y0 : (w.alloc (.cells (dcells 4 S N B C W s k p r a t h) 48)).cell? ⟨ga, i * 11 + 0, none⟩ = _ := (ti.cell 0 (by decide)).trans f0
  have y9 : (w.alloc (.cells (dcells 4 S N B C W s k p r a t h) 48)).cell? ⟨ga, i * 11 + 9, none⟩ = _ := (ti.cell 9 (by decide)).trans f9
  have u0 : (w.alloc (.cells (dcells 4 S N B C W s k p r a t h) 48)).cell? ⟨ga, j * 11 + 0, none⟩ = _ := (tj.cell 0 (by decide)).trans g0
  rw [Nat.add_zero] at y0 u0
  have HG : Hid (ga < (w.alloc (.cells (dcells 4 S N B C W s k p r a t h) 48)).heap.size) := ti.lt
  have k0 : (w.alloc (.cells (dcells 4 S N B C W s k p r a t h) 48)).cell? ⟨w.heap.size, 0, none⟩ = some (.int .i64 4) := d0.cell 0
  have k2 : (w.alloc (.cells (dcells 4 S N B C W s k p r a t h) 48)).cell? ⟨w.heap.size, 2, none⟩ = some (.int .i64 N) := d0.cell 2
  have k3 : (w.alloc (.cells (dcells 4 S N B C W s k p r a t h) 48)).cell? ⟨w.heap.size, 3, none⟩ = some (.int .i64 B) := d0.cell 3
  have k4 : (w.alloc (.cells (dcells 4 S N B C W s k p r a t h) 48)).cell? ⟨w.heap.size, 4, none⟩ = some (.int .i64 C) := d0.cell 4
  clear hp hB hq hth ti tj f0 f9 g0
  generalize q i = Q, q j = Q2, np i = NP, gp i = GP at *
  go_enter Tryd.func23, Tryd.ntmps23
  go_wp2_with fail
  generalize (w.alloc (.cells (dcells 4 S N B C W s k p r a t h) 48)) = w1 at *
  refine (hmod w1).mono ?_
  rintro e w2 ⟨rfl, rfl⟩
  clear hmod
  go_wp2_with fail
  refine (hmod2 w1).mono ?_
  rintro e w2 ⟨rfl, rfl⟩
  clear hmod2
  have hp4 : ∀ n, Calls Tryd.prog 38 #[.pointer (some ⟨b, 0, none⟩), .int .i64 Q, .int .i64 B, .int .i64 Q2] (w1.drewN n) fun e w' => e = .returned (.bool false) ∧ Below (w1.drewN n).heap.size (w1.drewN n) w' := fun n => Hp.out _ (below_drewN b0 n)
  go_upto_region 13 with fail
  refine quiet_tail 8 mixed (by kernel_rfl) ?_
  simp only [List.take_succ_cons, List.take_zero, List.drop_succ_cons, List.drop_zero]
  repeat (go_big_quiet_step (fail))
  refine wpQuiet_nil ?_
  go_wp2_with fail
  refine (hp4 1).mono ?_
  rintro e w5 ⟨rfl, l5⟩
  have b5 := (below_drewN b0 1).trans (l5.mono (below_drewN b0 1).size)
  have v3 : w5.cell? ⟨w.heap.size, 3, none⟩ = some (.int .i64 B) := (l5.cell (World.block_lt_of_cell? _ _ k3)).trans k3
  have v9 : w5.cell? ⟨ga, i * 11 + 9, none⟩ = some (.slice (some ⟨GP, 0, none⟩) NP NP) := (l5.cell HG.out).trans y9
  clear hp4 y0 y9 u0 k0 k2 k3 k4 d0 l5
  go_upto_region 14 with fail
  by_cases hb0 : B < 0
  · have e1 : decide (0 ≤ B) = false := decide_eq_false (by omega)
    refine quiet_tail 14 mixed (by kernel_rfl) ?_
    simp only [List.take_succ_cons, List.take_zero, List.drop_succ_cons, List.drop_zero]
    repeat (go_big_quiet_step (fail))
    refine wpQuiet_nil ?_
    go_wp2
    go_ret
    exact ⟨rfl, below_drewN b5 1⟩
  · have e1 : decide (0 ≤ B) = true := decide_eq_true (by omega)
    have e2 : decide (B < (NP : Int)) = false := decide_eq_false (by omega)
    refine quiet_tail 14 mixed (by kernel_rfl) ?_
    simp only [List.take_succ_cons, List.take_zero, List.drop_succ_cons, List.drop_zero]
    repeat (go_big_quiet_step (fail))
    refine wpQuiet_nil ?_
    go_wp2
    go_ret
    exact ⟨rfl, below_drewN b5 1⟩

end Go.Proofs.YtbdkcelggffneaaDoor

/-
  changed by SetRaw, where it says no.
-/
set_option linter.unusedVariables false
namespace Go.Proofs.YtbdkcelggffneaaDoor
open Go.RowKit Go.Shelf

set_option maxHeartbeats 4000000 in
theorem changed_raw_no (b ga L cap : Nat) (S N B C W s k p r a t : Int) (h : Bool) (hN : -9223372036854775808 ≤ N ∧ N ≤ 9223372036854775807) (hL : 0 < L ∧ L ≤ 4294967296) (f : Nat → Array Value) (q : Nat → Int) (np gp : Nat → Nat) (hq : ∀ i, (f i)[0]? = some (.int .i64 (q i)) ∧ (f i)[10]? = some (.slice (some ⟨gp i, 0, none⟩) (np i) (np i))) (w : World) (hth : ∀ i, i < L → Thi w ga i (f i))
    (hp : ∀ i, i < L → (∀ w1, Below w.heap.size w w1 → Calls Tryd.prog 39 #[.pointer (some ⟨b, 0, none⟩), .int .i64 (q i), .int .i64 B, .int .u64 W] w1 fun e w' => e = .returned (.bool false) ∧ Below w1.heap.size w1 w'))
    (hB : ∀ i, i < L → (B < 0 ∨ (np i : Int) ≤ B)) (m : Int) (i : Nat) (hm : m = i) (hi : i < L)
    (hmod : ∀ w1, Calls Tryd.prog 13 #[.int .i64 N, .int .i64 L] w1 fun e w' => e = .returned (.int .i64 i) ∧ w1 = w') :
    Calls Tryd.prog 23 #[.pointer (some ⟨b, 0, none⟩), .slice (some ⟨ga, 0, none⟩) L cap, dv 5 S N B C W s k p r a t h] w fun e w' => e = .returned (.bool true) ∧ Below w.heap.size w w' := by
  have b0 : Below w.heap.size w (w.alloc (.cells (dcells 5 S N B C W s k p r a t h) 48)) := Below.alloc (Below.refl _ _) (Nat.le_refl _) _
  have d0 := Dc.new w (dcells 5 S N B C W s k p r a t h)
  have ti : Thi (w.alloc (.cells (dcells 5 S N B C W s k p r a t h) 48)) ga i (f i) := (hth i hi).below b0
  have Hp : Hid (∀ w1, Below w.heap.size w w1 → Calls Tryd.prog 39 #[.pointer (some ⟨b, 0, none⟩), .int .i64 (q i), .int .i64 B, .int .u64 W] w1 fun e w' => e = .returned (.bool false) ∧ Below w1.heap.size w1 w') := hp i hi
  have hB' := hB i hi
  obtain ⟨f0, f9⟩ := hq i
  have y0 : (w.alloc (.cells (dcells 5 S N B C W s k p r a t h) 48)).cell? ⟨ga, i * 11 + 0, none⟩ = _ := (ti.cell 0 (by decide)).trans f0
  have y9 : (w.alloc (.cells (dcells 5 S N B C W s k p r a t h) 48)).cell? ⟨ga, i * 11 + 10, none⟩ = _ := (ti.cell 10 (by decide)).trans f9
  rw [Nat.add_zero] at y0
  have HG : Hid (ga < (w.alloc (.cells (dcells 5 S N B C W s k p r a t h) 48)).heap.size) := ti.lt
  have k0 : (w.alloc (.cells (dcells 5 S N B C W s k p r a t h) 48)).cell? ⟨w.heap.size, 0, none⟩ = some (.int .i64 5) := d0.cell 0
  have k2 : (w.alloc (.cells (dcells 5 S N B C W s k p r a t h) 48)).cell? ⟨w.heap.size, 2, none⟩ = some (.int .i64 N) := d0.cell 2
  have k3 : (w.alloc (.cells (dcells 5 S N B C W s k p r a t h) 48)).cell? ⟨w.heap.size, 3, none⟩ = some (.int .i64 B) := d0.cell 3
  have k4 : (w.alloc (.cells (dcells 5 S N B C W s k p r a t h) 48)).cell? ⟨w.heap.size, 4, none⟩ = some (.int .i64 C) := d0.cell 4
  have k5 : (w.alloc (.cells (dcells 5 S N B C W s k p r a t h) 48)).cell? ⟨w.heap.size, 5, none⟩ = some (.int .u64 W) := d0.cell 5
  clear hp hB hq hth ti f0 f9
  generalize q i = Q, np i = NP, gp i = GP at *
  go_enter Tryd.func23, Tryd.ntmps23
  go_wp2_with fail
  generalize (w.alloc (.cells (dcells 5 S N B C W s k p r a t h) 48)) = w1 at *
  refine (hmod w1).mono ?_
  rintro e w2 ⟨rfl, rfl⟩
  clear hmod
  have hp4 : ∀ n, Calls Tryd.prog 39 #[.pointer (some ⟨b, 0, none⟩), .int .i64 Q, .int .i64 B, .int .u64 W] (w1.drewN n) fun e w' => e = .returned (.bool false) ∧ Below (w1.drewN n).heap.size (w1.drewN n) w' := fun n => Hp.out _ (below_drewN b0 n)
  go_upto_region 19 with fail
  refine quiet_tail 9 mixed (by kernel_rfl) ?_
  simp only [List.take_succ_cons, List.take_zero, List.drop_succ_cons, List.drop_zero]
  repeat (go_big_quiet_step (fail))
  refine wpQuiet_nil ?_
  go_wp2_with fail
  refine (hp4 1).mono ?_
  rintro e w5 ⟨rfl, l5⟩
  have b5 := (below_drewN b0 1).trans (l5.mono (below_drewN b0 1).size)
  have v3 : w5.cell? ⟨w.heap.size, 3, none⟩ = some (.int .i64 B) := (l5.cell (World.block_lt_of_cell? _ _ k3)).trans k3
  have v9 : w5.cell? ⟨ga, i * 11 + 10, none⟩ = some (.slice (some ⟨GP, 0, none⟩) NP NP) := (l5.cell HG.out).trans y9
  clear hp4 y0 y9 k0 k2 k3 k4 k5 d0 l5
  go_upto_region 20 with fail
  by_cases hb0 : B < 0
  · have e1 : decide (0 ≤ B) = false := decide_eq_false (by omega)
    refine quiet_tail 14 mixed (by kernel_rfl) ?_
    simp only [List.take_succ_cons, List.take_zero, List.drop_succ_cons, List.drop_zero]
    repeat (go_big_quiet_step (fail))
    refine wpQuiet_nil ?_
    go_wp2
    go_ret
    exact ⟨rfl, below_drewN b5 1⟩
  · have e1 : decide (0 ≤ B) = true := decide_eq_true (by omega)
    have e2 : decide (B < (NP : Int)) = false := decide_eq_false (by omega)
    refine quiet_tail 14 mixed (by kernel_rfl) ?_
    simp only [List.take_succ_cons, List.take_zero, List.drop_succ_cons, List.drop_zero]
    repeat (go_big_quiet_step (fail))
    refine wpQuiet_nil ?_
    go_wp2
    go_ret
    exact ⟨rfl, below_drewN b5 1⟩

end Go.Proofs.YtbdkcelggffneaaDoor

