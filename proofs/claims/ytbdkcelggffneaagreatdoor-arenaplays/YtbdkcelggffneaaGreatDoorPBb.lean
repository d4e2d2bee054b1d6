import Derived.Test.YtbdkcelggffneaaGreatDoorB17
import Derived.Test.YtbdkcelggffneaaGreatDoorB6
import Derived.Test.YtbdkcelggffneaaGreatDoorARC
/-
  The two arenas side by side: single steps that ask, any step's numbers.
-/
set_option linter.unusedVariables false
set_option maxRecDepth 20000
namespace Go.Proofs.YtbdkcelggffneaaGreatDoor
open Go.RowKit Go.Shelf

/-- A step: its kind, its numbers, its word, its head. -/
structure Opg where
  k : Int
  f1 : Int
  sp : Int
  at_ : Int
  i : Int
  n : Int
  u : Int
  s : Int
  hk : Int
  p : Int
  r : Int
  ag : Int
  t : Int
  h : Bool

abbrev Opg.cells (o : Opg) : Array Value := #[.int .i64 o.k, .int .i64 o.f1, .int .i64 o.sp, .int .i64 o.at_, .int .i64 o.i, .int .i64 o.n, .int .u64 o.u, .int .u64 o.s, .int .i64 o.hk, .int .i64 o.p, .int .i64 o.r, .int .i64 o.ag, .int .i64 o.t, .bool o.h]
abbrev Opg.val (o : Opg) : Value := .agg o.cells

/-- A step in its box. -/
structure Ob (w : World) (B : Nat) (o : Opg) : Prop where
  is : w.heap[B]? = some (.cells o.cells 33 (0, 0))

theorem Ob.new (w : World) (o : Opg) : Ob (w.alloc (.cells o.cells 33)) w.heap.size o := ⟨heap_alloc_new w _⟩
theorem Ob.lt {w : World} {B : Nat} {o : Opg} (h : Ob w B o) : B < w.heap.size := (Array.getElem?_eq_some_iff.1 h.is).1
theorem Ob.below {w w' : World} {B : Nat} {o : Opg} (h : Ob w B o) (l : Below w.heap.size w w') : Ob w' B o := ⟨(l.block B h.lt).trans h.is⟩
theorem Ob.cell {w : World} {B : Nat} {o : Opg} (h : Ob w B o) (j : Nat) : w.cell? ⟨B, j, none⟩ = o.cells[j]? := cell_of_row _ _ j _ _ _ h.is

section
variable (p a h r : Nat) (g : Nat → Nat) (c : Cfg) (x : Tps) (sw : Bool) (ws : Nat → Int)

set_option maxHeartbeats 2000000 in
theorem step10_any (o : Opg) (ho : o.k = 10) (w : World) (hB : Bo w p a h r g c x sw ws) :
    Calls Tryz.prog 7 #[.pointer (some ⟨p, 0, none⟩), o.val] w fun e w' => e = .returned (.bool true) ∧ Below w.heap.size w w' := by
  have l0 : Hid (Below w.heap.size w (w.alloc (.cells o.cells 33))) := Below.alloc (Below.refl _ _) (Nat.le_refl _) _
  have hO := Ob.new w o
  have hB0 := hB.below l0.out
  have HB : Hid (Bo (w.alloc (.cells o.cells 33)) p a h r g c x sw ws) := hB0
  have HA : Hid (∀ w1, Below (w.alloc (.cells o.cells 33)).heap.size (w.alloc (.cells o.cells 33)) w1 → Calls Tryz.prog 18 #[.pointer (some ⟨a, 0, none⟩), .int .i64 o.at_] w1 fun e w' => e = .returned (.int .u64 (wat c ws o.at_)) ∧ w1 = w') := fun w1 l => word_any3 a h c x sw ws o.at_ w1 (HB.out.below l).ar
  have HR : Hid (∀ w1, Below (w.alloc (.cells o.cells 33)).heap.size (w.alloc (.cells o.cells 33)) w1 → Calls Tryz.prog 19 #[.pointer (some ⟨r, 0, none⟩), .int .i64 o.at_] w1 fun e w' => e = .returned (.int .u64 (wat c ws o.at_)) ∧ Below w1.heap.size w1 w') := fun w1 l => rword_any r g c x sw ws o.at_ w1 (HB.out.below l).ra
  clear hB hB0
  go_enter Tryz.func7, Tryz.ntmps7
  go_upto_region 1 with fail
  have k0 : (w.alloc (.cells o.cells 33)).cell? ⟨w.heap.size, 0, none⟩ = some (.int .i64 10) := by rw [hO.cell 0, ← ho]; rfl
  have k3 : (w.alloc (.cells o.cells 33)).cell? ⟨w.heap.size, 3, none⟩ = some (.int .i64 o.at_) := hO.cell 3
  generalize w.alloc (.cells o.cells 33) = v at *
  generalize wat c ws o.at_ = m at *
  have c0 := HB.out.c0
  have c1 := HB.out.c1
  have HO : Hid (Ob v w.heap.size o) := hO
  clear hO
  go_upto_region 4 with fail
  refine quiet_tail 6 mixed (by kernel_rfl) ?_
  simp only [List.take_succ_cons, List.take_zero, List.drop_succ_cons, List.drop_zero]
  repeat (go_big_quiet_step (fail))
  refine wpQuiet_nil ?_
  go_wp2_with fail
  refine (HA.out _ (below_drewN (Below.refl _ _) 1)).mono ?_
  rintro e w1 ⟨rfl, rfl⟩
  clear HA
  go_upto_region 5 with fail
  have b1 : Below v.heap.size v (v.drewN 1) := below_drewN (Below.refl _ _) 1
  generalize v.drewN 1 = v1 at *
  have HB1 := HB.out.below b1
  have z1 : ∀ q : Bel v1, q.v.cell? ⟨p, 1, none⟩ = some (.pointer (some ⟨r, 0, none⟩)) := fun q => (HB1.below q.h).c1
  have z3 : ∀ q : Bel v1, q.v.cell? ⟨w.heap.size, 3, none⟩ = some (.int .i64 o.at_) := fun q => ((HO.out.below b1).below q.h).cell 3
  have HS : Hid (∀ q : Bel v1, Calls Tryz.prog 19 #[.pointer (some ⟨r, 0, none⟩), .int .i64 o.at_] q.v fun e w' => e = .returned (.int .u64 m) ∧ Below q.v.heap.size q.v w') := fun q => HR.out _ (b1.trans (q.h.mono b1.size))
  have L1 : Hid (Below v.heap.size v v1) := b1
  clear HR k0 k3 c0 c1 HB1 HB HO b1
  haveI hinh : Inhabited (Bel v1) := ⟨⟨v1, Below.refl _ _⟩⟩
  refine region_below mixed (by kernel_rfl) ?_
  repeat (go_big_quiet_step (first | (go_at_call 19; exact calls_bel (HS.out _))))
  refine wpQuiet_nil ?_
  rintro w6 ⟨⟨w6, b8⟩, rfl⟩
  have L2 : Hid (Below v.heap.size v w6) := L1.out.trans (b8.mono L1.out.size)
  clear z1 z3 HS b8
  go_wp2
  go_ret
  exact ⟨by simp, l0.out.trans (L2.out.mono l0.out.size)⟩

set_option maxHeartbeats 2000000 in
theorem step11_any (o : Opg) (ho : o.k = 11) (w : World) (hB : Bo w p a h r g c x sw ws) :
    Calls Tryz.prog 7 #[.pointer (some ⟨p, 0, none⟩), o.val] w fun e w' => e = .returned (.bool true) ∧ Below w.heap.size w w' := by
  have l0 : Hid (Below w.heap.size w (w.alloc (.cells o.cells 33))) := Below.alloc (Below.refl _ _) (Nat.le_refl _) _
  have hO := Ob.new w o
  have hS := lspace_any p a h r g c x sw ws o.sp _ (hB.below l0.out)
  clear hB
  go_enter Tryz.func7, Tryz.ntmps7
  go_upto_region 1 with fail
  have k0 : (w.alloc (.cells o.cells 33)).cell? ⟨w.heap.size, 0, none⟩ = some (.int .i64 11) := by rw [hO.cell 0, ← ho]; rfl
  have k2 : (w.alloc (.cells o.cells 33)).cell? ⟨w.heap.size, 2, none⟩ = some (.int .i64 o.sp) := hO.cell 2
  generalize w.alloc (.cells o.cells 33) = v at *
  clear hO
  go_wp2_with fail
  refine hS.mono ?_
  rintro e w1 ⟨rfl, l1⟩
  clear hS k0 k2
  go_wp2
  go_ret
  exact ⟨rfl, l0.out.trans (l1.mono l0.out.size)⟩
end

end Go.Proofs.YtbdkcelggffneaaGreatDoor

/-
  The two arenas side by side: Space and Young.
-/
set_option linter.unusedVariables false
set_option maxRecDepth 20000
namespace Go.Proofs.YtbdkcelggffneaaGreatDoor
open Go.RowKit Go.Shelf

section
variable (p a h r : Nat) (g : Nat → Nat) (c : Cfg) (x : Tps) (sw : Bool) (ws : Nat → Int)

set_option maxHeartbeats 4000000 in
theorem step13_any (o : Opg) (ho : o.k = 13) (w : World) (hB : Bo w p a h r g c x sw ws) :
    Calls Tryz.prog 7 #[.pointer (some ⟨p, 0, none⟩), o.val] w fun e w' => e = .returned (.bool true) ∧ Below w.heap.size w w' := by
  have l0 : Hid (Below w.heap.size w (w.alloc (.cells o.cells 33))) := Below.alloc (Below.refl _ _) (Nat.le_refl _) _
  have hO := Ob.new w o
  have hB0 := hB.below l0.out
  have HB : Hid (Bo (w.alloc (.cells o.cells 33)) p a h r g c x sw ws) := hB0
  have H1 : Hid (∀ w1, Bo w1 p a h r g c x sw ws → Calls Tryz.prog 25 #[.pointer (some ⟨a, 0, none⟩), .int .i64 o.at_] w1 fun e w' => e = .returned (.int .i64 (spc c o.at_)) ∧ Below w1.heap.size w1 w') := fun w1 hw => space_any a h c x sw ws o.at_ w1 hw.ar
  have H2 : Hid (∀ w1, Bo w1 p a h r g c x sw ws → Calls Tryz.prog 26 #[.pointer (some ⟨a, 0, none⟩), .int .i64 o.at_] w1 fun e w' => e = .returned (.bool (decide (spc c o.at_ = 1 ∨ spc c o.at_ = if sw = true then 3 else 2))) ∧ Below w1.heap.size w1 w') := fun w1 hw => young_any a h c x sw ws o.at_ w1 hw.ar
  have H3 : Hid (∀ w1, Bo w1 p a h r g c x sw ws → Calls Tryz.prog 27 #[.pointer (some ⟨r, 0, none⟩), .int .i64 o.at_] w1 fun e w' => e = .returned (.int .i64 (spc c o.at_)) ∧ Below w1.heap.size w1 w') := fun w1 hw => rspaceof_any r g c x sw ws o.at_ w1 hw.ra
  have H4 : Hid (∀ w1, Bo w1 p a h r g c x sw ws → Calls Tryz.prog 28 #[.pointer (some ⟨r, 0, none⟩), .int .i64 o.at_] w1 fun e w' => e = .returned (.bool (decide (spc c o.at_ = 1 ∨ spc c o.at_ = if sw = true then 3 else 2))) ∧ Below w1.heap.size w1 w') := fun w1 hw => ryoung_any r g c x sw ws o.at_ w1 hw.ra
  clear hB hB0
  generalize decide (spc c o.at_ = 1 ∨ spc c o.at_ = if sw = true then 3 else 2) = Y at *
  generalize spc c o.at_ = S at *
  go_enter Tryz.func7, Tryz.ntmps7
  go_upto_region 1 with fail
  have k0 : (w.alloc (.cells o.cells 33)).cell? ⟨w.heap.size, 0, none⟩ = some (.int .i64 13) := by rw [hO.cell 0, ← ho]; rfl
  have k3 : (w.alloc (.cells o.cells 33)).cell? ⟨w.heap.size, 3, none⟩ = some (.int .i64 o.at_) := hO.cell 3
  generalize w.alloc (.cells o.cells 33) = v at *
  have c0 := HB.out.c0
  have HO : Hid (Ob v w.heap.size o) := hO
  clear hO
  go_upto_region 13 with fail
  refine quiet_tail 6 mixed (by kernel_rfl) ?_
  simp only [List.take_succ_cons, List.take_zero, List.drop_succ_cons, List.drop_zero]
  repeat (go_big_quiet_step (fail))
  refine wpQuiet_nil ?_
  go_wp2_with fail
  have bd : Below v.heap.size v (v.drewN 1) := below_drewN (Below.refl _ _) 1
  refine (H1.out _ (HB.out.below bd)).mono ?_
  rintro e w1 ⟨rfl, l1⟩
  have b1 : Below v.heap.size v w1 := bd.trans (l1.mono bd.size)
  have hB1 := HB.out.below b1
  have hO1 := HO.out.below b1
  have L1 : Hid (Below v.heap.size v w1) := b1
  clear k0 k3 c0 bd l1 b1 H1
  go_upto_region 14 with fail
  have k3 : w1.cell? ⟨w.heap.size, 3, none⟩ = some (.int .i64 o.at_) := hO1.cell 3
  have c0 := hB1.c0
  refine quiet_tail 6 mixed (by kernel_rfl) ?_
  simp only [List.take_succ_cons, List.take_zero, List.drop_succ_cons, List.drop_zero]
  repeat (go_big_quiet_step (fail))
  refine wpQuiet_nil ?_
  go_wp2_with fail
  have bd : Below w1.heap.size w1 (w1.drewN 1) := below_drewN (Below.refl _ _) 1
  refine (H2.out _ (hB1.below bd)).mono ?_
  rintro e w2 ⟨rfl, l2⟩
  have b2 : Below w1.heap.size w1 w2 := bd.trans (l2.mono bd.size)
  have hB2 := hB1.below b2
  have hO2 := hO1.below b2
  have L2 : Hid (Below v.heap.size v w2) := L1.out.trans (b2.mono L1.out.size)
  clear k3 c0 bd l2 b2 H2 hB1 hO1 L1 HB HO
  go_upto_region 15 with fail
  have z1 : ∀ q : Bel w2, q.v.cell? ⟨p, 1, none⟩ = some (.pointer (some ⟨r, 0, none⟩)) := fun q => (hB2.below q.h).c1
  have z3 : ∀ q : Bel w2, q.v.cell? ⟨w.heap.size, 3, none⟩ = some (.int .i64 o.at_) := fun q => (hO2.below q.h).cell 3
  have HS : Hid (∀ q : Bel w2, Calls Tryz.prog 27 #[.pointer (some ⟨r, 0, none⟩), .int .i64 o.at_] q.v fun e w' => e = .returned (.int .i64 S) ∧ Below q.v.heap.size q.v w') := fun q => H3.out _ (hB2.below q.h)
  have HY : Hid (∀ q : Bel w2, Calls Tryz.prog 28 #[.pointer (some ⟨r, 0, none⟩), .int .i64 o.at_] q.v fun e w' => e = .returned (.bool Y) ∧ Below q.v.heap.size q.v w') := fun q => H4.out _ (hB2.below q.h)
  clear H3 H4 hB2 hO2
  haveI hinh : Inhabited (Bel w2) := ⟨⟨w2, Below.refl _ _⟩⟩
  refine region_below mixed (by kernel_rfl) ?_
  repeat (go_big_quiet_step (first | (go_at_call 27; exact calls_bel (HS.out _)) | (go_at_call 28; exact calls_bel (HY.out _))))
  refine wpQuiet_nil ?_
  rintro w6 ⟨⟨w6, b8⟩, rfl⟩
  have L3 : Hid (Below v.heap.size v w6) := L2.out.trans (b8.mono L2.out.size)
  clear z1 z3 HS HY b8 L2
  go_wp2
  go_ret
  exact ⟨by simp, l0.out.trans (L3.out.mono l0.out.size)⟩
end

end Go.Proofs.YtbdkcelggffneaaGreatDoor

