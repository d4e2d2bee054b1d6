/-
  changed, where SetHead says yes.
-/
import Derived.Test.YtbdkcelggffneaaDoorHY
set_option linter.unusedVariables false
set_option maxRecDepth 20000
namespace Go.Proofs.YtbdkcelggffneaaDoor
open Go.RowKit Go.Shelf

/-- Seven cells are laid. -/
def lay7 (w : World) (ga o : Nat) (s k P1 R1 a t : Int) (h : Bool) : World := (((((((w.setCell ⟨ga, o + 2, none⟩ (.int .u64 s)).setCell ⟨ga, o + 2 + 1, none⟩ (.int .i64 k)).setCell ⟨ga, o + 2 + 2, none⟩ (.int .i64 P1)).setCell ⟨ga, o + 2 + 3, none⟩ (.int .i64 R1)).setCell ⟨ga, o + 2 + 4, none⟩ (.int .i64 a)).setCell ⟨ga, o + 2 + 5, none⟩ (.int .i64 t)).setCell ⟨ga, o + 2 + 6, none⟩ (.bool h))

theorem lay7_eq (w : World) (ga o : Nat) (s k P1 R1 a t : Int) (h : Bool) : (((((((w.setCell ⟨ga, o + 2, none⟩ (.int .u64 s)).setCell ⟨ga, o + 2 + 1, none⟩ (.int .i64 k)).setCell ⟨ga, o + 2 + 2, none⟩ (.int .i64 P1)).setCell ⟨ga, o + 2 + 3, none⟩ (.int .i64 R1)).setCell ⟨ga, o + 2 + 4, none⟩ (.int .i64 a)).setCell ⟨ga, o + 2 + 5, none⟩ (.int .i64 t)).setCell ⟨ga, o + 2 + 6, none⟩ (.bool h)) = lay7 w ga o s k P1 R1 a t h := rfl

def set7 (cs : Array Value) (o : Nat) (s k P1 R1 a t : Int) (h : Bool) : Array Value := (((((((cs.setIfInBounds (o + 2) (.int .u64 s)).setIfInBounds (o + 2 + 1) (.int .i64 k)).setIfInBounds (o + 2 + 2) (.int .i64 P1)).setIfInBounds (o + 2 + 3) (.int .i64 R1)).setIfInBounds (o + 2 + 4) (.int .i64 a)).setIfInBounds (o + 2 + 5) (.int .i64 t)).setIfInBounds (o + 2 + 6) (.bool h))

theorem lay7_heap {w : World} {ga : Nat} {cs : Array Value} {T : TypeId} (h' : w.heap[ga]? = some (.cells cs T)) (o : Nat) (s k P1 R1 a t : Int) (h : Bool) : (lay7 w ga o s k P1 R1 a t h).heap[ga]? = some (.cells (set7 cs o s k P1 R1 a t h) T) := by
  unfold lay7 set7
  exact (set_atH (set_atH (set_atH (set_atH (set_atH (set_atH (set_atH h' _ _) _ _) _ _) _ _) _ _) _ _) _ _)

theorem lay7_touch (w : World) (ga o : Nat) (s k P1 R1 a t : Int) (h : Bool) : Touch [ga] w (lay7 w ga o s k P1 R1 a t h) := by
  unfold lay7
  exact ((((((((Touch.refl _ _).trans (Touch.setCell _ _ _ (by simp))).trans (Touch.setCell _ _ _ (by simp))).trans (Touch.setCell _ _ _ (by simp))).trans (Touch.setCell _ _ _ (by simp))).trans (Touch.setCell _ _ _ (by simp))).trans (Touch.setCell _ _ _ (by simp))).trans (Touch.setCell _ _ _ (by simp)))

set_option maxHeartbeats 8000000 in
theorem changed_head_yes (b g ga L cap : Nat) (c : Cfg) (x : Tps) (sw : Bool) (ws ws' : Nat → Int) (S N B C W s k p r a t : Int) (h : Bool) (w : World) (i : Nat) (hi : i < L) (hL : L ≤ 1000000) (Q P1 R1 : Int) (cs : Array Value)
    (h0 : w.cell? ⟨ga, i * 11, none⟩ = some (.int .i64 Q)) (h4 : w.cell? ⟨ga, i * 11 + 4, none⟩ = some (.int .i64 P1)) (h5 : w.cell? ⟨ga, i * 11 + 5, none⟩ = some (.int .i64 R1)) (hg : w.heap[ga]? = some (.cells cs 81 (0, 0))) (hsz : i * 11 + 11 ≤ cs.size)
    (hga : ga ≠ g) (hgl : g < w.heap.size) (hbG : ga ≠ b)
    (hmod : ∀ w1, Calls Tryd.prog 13 #[.int .i64 N, .int .i64 L] w1 fun e w' => e = .returned (.int .i64 i) ∧ w1 = w')
    (hp : ∀ w1, Below w.heap.size w w1 → Calls Tryd.prog 37 #[.pointer (some ⟨b, 0, none⟩), .int .i64 Q, hv s k P1 R1 a t h] w1 fun e w' => e = .returned (.bool true) ∧ Ar w' b g c x sw ws' ∧ Touch [g] w1 w') :
    Calls Tryd.prog 23 #[.pointer (some ⟨b, 0, none⟩), .slice (some ⟨ga, 0, none⟩) L cap, dv 3 S N B C W s k p r a t h] w fun e w' => e = .returned (.bool true) ∧ Ar w' b g c x sw ws' ∧ Touch [g, ga] w w' ∧ w'.heap[ga]? = some (.cells (set7 cs (i * 11) s k P1 R1 a t h) 81 (0, 0)) := by
  have b0 : Below w.heap.size w (w.alloc (.cells (dcells 3 S N B C W s k p r a t h) 48)) := Below.alloc (Below.refl _ _) (Nat.le_refl _) _
  have d0 := Dc.new w (dcells 3 S N B C W s k p r a t h)
  have cl : ∀ {q : Addr} {u : Value}, w.cell? q = some u → (w.alloc (.cells (dcells 3 S N B C W s k p r a t h) 48)).cell? q = some u := fun hq => (b0.cell (World.block_lt_of_cell? _ _ hq)).trans hq
  have y0 := cl h0
  have y4 := cl h4
  have y5 := cl h5
  have lga : ga < w.heap.size := (Array.getElem?_eq_some_iff.1 hg).1
  have yg : Hid ((w.alloc (.cells (dcells 3 S N B C W s k p r a t h) 48)).heap[ga]? = some (.cells cs 81 (0, 0))) := (b0.block ga lga).trans hg
  have k2 : (w.alloc (.cells (dcells 3 S N B C W s k p r a t h) 48)).cell? ⟨w.heap.size, 2, none⟩ = some (.int .i64 N) := d0.cell 2
  have Hp' : Hid (∀ w1, Below w.heap.size w w1 → Calls Tryd.prog 37 #[.pointer (some ⟨b, 0, none⟩), .int .i64 Q, hv s k P1 R1 a t h] w1 fun e w' => e = .returned (.bool true) ∧ Ar w' b g c x sw ws' ∧ Touch [g] w1 w') := hp
  have Hg : Hid (g < w.heap.size ∧ ga ≠ g ∧ ga < w.heap.size ∧ ga ≠ b) := ⟨hgl, hga, lga, hbG⟩
  have hil : (i : Int) < (L : Int) := by omega
  clear hp h0 h4 h5 hg cl hga hgl lga hbG
  go_enter Tryd.func23, Tryd.ntmps23
  go_wp2_with fail
  clear k2
  generalize (w.alloc (.cells (dcells 3 S N B C W s k p r a t h) 48)) = w1 at *
  refine (hmod w1).mono ?_
  rintro e w2 ⟨rfl, rfl⟩
  clear hmod
  have HD : Hid (w.heap.size < w1.heap.size) := d0.lt
  have k0 : w1.cell? ⟨w.heap.size, 0, none⟩ = some (.int .i64 3) := d0.cell 0
  have k6 : w1.cell? ⟨w.heap.size, 6, none⟩ = some (.int .u64 s) := d0.cell 6
  have k7 : w1.cell? ⟨w.heap.size, 7, none⟩ = some (.int .i64 k) := d0.cell 7
  have k8 : w1.cell? ⟨w.heap.size, 8, none⟩ = some (.int .i64 p) := d0.cell 8
  have k9 : w1.cell? ⟨w.heap.size, 9, none⟩ = some (.int .i64 r) := d0.cell 9
  have k10 : w1.cell? ⟨w.heap.size, 10, none⟩ = some (.int .i64 a) := d0.cell 10
  have k11 : w1.cell? ⟨w.heap.size, 11, none⟩ = some (.int .i64 t) := d0.cell 11
  have k12 : w1.cell? ⟨w.heap.size, 12, none⟩ = some (.bool h) := d0.cell 12
  go_upto_region 6 with fail
  clear k0 k6 k7 k8 k9 k10 k11 k12
  have h2 : Hb (w1.alloc (.cells (hcells s k p r a t h) 46)) w1.heap.size (hcells s k p r a t h) := ⟨heap_alloc_new w1 _⟩
  have l2 : Below w1.heap.size w1 (w1.alloc (.cells (hcells s k p r a t h) 46)) := Below.alloc (Below.refl _ _) (Nat.le_refl _) _
  have b2 := b0.trans (l2.mono b0.size)
  have cl : ∀ {q : Addr} {u : Value}, w1.cell? q = some u → (w1.alloc (.cells (hcells s k p r a t h) 46)).cell? q = some u := fun hq => (l2.cell (World.block_lt_of_cell? _ _ hq)).trans hq
  have c0 := cl y0
  have c4 := cl y4
  have c5 := cl y5
  have yg2 : Hid ((w1.alloc (.cells (hcells s k p r a t h) 46)).heap[ga]? = some (.cells cs 81 (0, 0))) := (l2.block ga (Array.getElem?_eq_some_iff.1 yg.out).1).trans yg.out
  clear l2 b0 d0 y0 y4 y5 cl yg
  generalize (w1.alloc (.cells (hcells s k p r a t h) 46)) = w2 at *
  generalize w1.heap.size = HR at *
  have hne : ga ≠ HR := by have := Hg.out.2.2.1; have := HD.out; omega
  have hge : w.heap.size ≤ HR := Nat.le_of_lt HD.out
  have x2 : w2.cell? ⟨HR, 2, none⟩ = some (.int .i64 p) := h2.cellAt 2
  have z2 := h2.frozenAt 2
  go_upto_region 7 with fail
  clear x2 z2 c4
  have h3 : Hb (w2.setCell ⟨HR, 2, none⟩ (.int .i64 P1)) HR (hcells s k P1 r a t h) := by simpa using h2.setAt 2 (.int .i64 P1)
  have b3 : Below w.heap.size w (w2.setCell ⟨HR, 2, none⟩ (.int .i64 P1)) := Below.setCell b2 hge _
  have ck : ∀ {j : Nat} {u : Value}, w2.cell? ⟨ga, j, none⟩ = some u → (w2.setCell ⟨HR, 2, none⟩ (.int .i64 P1)).cell? ⟨ga, j, none⟩ = some u := fun hq => (World.cell?_of_block (w := w2) (Below.heap_setCell _ _ _ _ hne)).trans hq
  have e0 := ck c0
  have e5 := ck c5
  have yg3 : Hid ((w2.setCell ⟨HR, 2, none⟩ (.int .i64 P1)).heap[ga]? = some (.cells cs 81 (0, 0))) := (Below.heap_setCell _ _ _ _ hne).trans yg2.out
  clear h2 b2 c0 c5 ck yg2
  generalize w2.setCell ⟨HR, 2, none⟩ (.int .i64 P1) = w3 at *
  have x3 : w3.cell? ⟨HR, 3, none⟩ = some (.int .i64 r) := h3.cellAt 3
  have z3 := h3.frozenAt 3
  go_upto_region 8 with fail
  clear x3 z3 e5
  have h4 : Hb (w3.setCell ⟨HR, 3, none⟩ (.int .i64 R1)) HR (hcells s k P1 R1 a t h) := by simpa using h3.setAt 3 (.int .i64 R1)
  have b4 : Below w.heap.size w (w3.setCell ⟨HR, 3, none⟩ (.int .i64 R1)) := Below.setCell b3 hge _
  have y0 : (w3.setCell ⟨HR, 3, none⟩ (.int .i64 R1)).cell? ⟨ga, i * 11, none⟩ = some (.int .i64 Q) := (World.cell?_of_block (w := w3) (Below.heap_setCell _ _ _ _ hne)).trans e0
  have yg4 : Hid ((w3.setCell ⟨HR, 3, none⟩ (.int .i64 R1)).heap[ga]? = some (.cells cs 81 (0, 0))) := (Below.heap_setCell _ _ _ _ hne).trans yg3.out
  clear h3 b3 e0 yg3
  generalize w3.setCell ⟨HR, 3, none⟩ (.int .i64 R1) = w4 at *
  have hp4 : ∀ n, Calls Tryd.prog 37 #[.pointer (some ⟨b, 0, none⟩), .int .i64 Q, hv s k P1 R1 a t h] (w4.drewN n) fun e w' => e = .returned (.bool true) ∧ Ar w' b g c x sw ws' ∧ Touch [g] (w4.drewN n) w' := fun n => Hp'.out _ (below_drewN b4 n)
  have x0 : w4.cell? ⟨HR, 0, none⟩ = some (.int .u64 s) := h4.cellAt 0
  have x1 : w4.cell? ⟨HR, 1, none⟩ = some (.int .i64 k) := h4.cellAt 1
  have x2 : w4.cell? ⟨HR, 2, none⟩ = some (.int .i64 P1) := h4.cellAt 2
  have x3 : w4.cell? ⟨HR, 3, none⟩ = some (.int .i64 R1) := h4.cellAt 3
  have x4 : w4.cell? ⟨HR, 4, none⟩ = some (.int .i64 a) := h4.cellAt 4
  have x5 : w4.cell? ⟨HR, 5, none⟩ = some (.int .i64 t) := h4.cellAt 5
  have x6 : w4.cell? ⟨HR, 6, none⟩ = some (.bool h) := h4.cellAt 6
  refine quiet_tail 6 mixed (by kernel_rfl) ?_
  simp only [List.take_succ_cons, List.take_zero, List.drop_succ_cons, List.drop_zero]
  repeat (go_big_quiet_step (fail))
  refine wpQuiet_nil ?_
  go_wp2_with fail
  refine (hp4 1).mono ?_
  rintro e w5 ⟨rfl, A5, t5⟩
  have T5 : Hid (Touch [g] w w5) := (Touch.of_below (below_drewN b4 1) _).trans t5
  have HA5 : Hid (Ar w5 b g c x sw ws') := A5
  have h6 : Hb w5 HR (hcells s k P1 R1 a t h) := ⟨(t5.block HR h4.lt' (by have := Hg.out.1; simp; omega)).trans h4.at_⟩
  have yg5 : w5.heap[ga]? = some (.cells cs 81 (0, 0)) := (t5.block ga (Array.getElem?_eq_some_iff.1 yg4.out).1 (by simpa using Hg.out.2.1)).trans yg4.out
  clear hp4 y0 x0 x1 x2 x3 x4 x5 x6 t5 A5 h4 b4 yg4
  have x0 : w5.cell? ⟨HR, 0, none⟩ = some (.int .u64 s) := h6.cellAt 0
  have x1 : w5.cell? ⟨HR, 1, none⟩ = some (.int .i64 k) := h6.cellAt 1
  have x2 : w5.cell? ⟨HR, 2, none⟩ = some (.int .i64 P1) := h6.cellAt 2
  have x3 : w5.cell? ⟨HR, 3, none⟩ = some (.int .i64 R1) := h6.cellAt 3
  have x4 : w5.cell? ⟨HR, 4, none⟩ = some (.int .i64 a) := h6.cellAt 4
  have x5 : w5.cell? ⟨HR, 5, none⟩ = some (.int .i64 t) := h6.cellAt 5
  have x6 : w5.cell? ⟨HR, 6, none⟩ = some (.bool h) := h6.cellAt 6
  have fr : ∀ j, w5.frozen? ⟨ga, j, none⟩ = false := fun j => by unfold World.frozen?; simp only [yg5]; simp
  have ex : ∀ j, j < 7 → ∃ u, w5.cell? ⟨ga, i * 11 + 2 + j, none⟩ = some u := fun j hj => ⟨_, (cell_of_row _ _ _ _ _ _ yg5).trans (Array.getElem?_eq_getElem (by omega))⟩
  obtain ⟨u0, n0⟩ := ex 0 (by decide)
  have z0 := fr (i * 11 + 2)
  obtain ⟨u1, n1⟩ := ex 1 (by decide)
  have z1 := fr (i * 11 + 3)
  obtain ⟨u2, n2⟩ := ex 2 (by decide)
  have z2 := fr (i * 11 + 4)
  obtain ⟨u3, n3⟩ := ex 3 (by decide)
  have z3 := fr (i * 11 + 5)
  obtain ⟨u4, n4⟩ := ex 4 (by decide)
  have z4 := fr (i * 11 + 6)
  obtain ⟨u5, n5⟩ := ex 5 (by decide)
  have z5 := fr (i * 11 + 7)
  obtain ⟨u6, n6⟩ := ex 6 (by decide)
  have z6 := fr (i * 11 + 8)
  simp only [Nat.add_assoc, Nat.reduceAdd, Nat.add_zero] at n0 n1 n2 n3 n4 n5 n6
  have Yg5 : Hid (w5.heap[ga]? = some (.cells cs 81 (0, 0))) := yg5
  clear yg5 fr ex h6
  go_wp2
  go_ret
  rw [lay7_eq]
  have tt := lay7_touch w5 ga (i * 11) s k P1 R1 a t h
  obtain ⟨G1, G2, G3, G4⟩ := Hg.out
  exact ⟨rfl, HA5.out.touch tt (by simpa using Ne.symm G4) (by simpa using Ne.symm G2), (T5.out.mono (fun q hq => .inl (by simp at hq ⊢; exact .inl hq))).trans (tt.mono (fun q hq => .inl (by simp at hq ⊢; exact .inr hq))), lay7_heap Yg5.out (i * 11) s k P1 R1 a t h⟩

end Go.Proofs.YtbdkcelggffneaaDoor
