/-
  The two arenas side by side: steps that write.
-/
import Derived.Test.YtbdkcelggffneaaGreatDoorPBc
import Derived.Test.YtbdkcelggffneaaGreatDoorPBb
import Derived.Deep.RegionHeld3
set_option linter.unusedVariables false
set_option maxRecDepth 20000
namespace Go.Proofs.YtbdkcelggffneaaGreatDoor
open Go.RowKit Go.Shelf

theorem Touch.mono {F G : List Nat} {a b : World} (h : Touch F a b) (hs : ∀ k, k ∈ F → k ∈ G ∨ a.heap.size ≤ k) : Touch G a b :=
  ⟨h.os, h.tape, h.output, h.size, fun k hk hn => h.block k hk (fun hm => by rcases hs k hm with h1 | h1; exact hn h1; omega)⟩

/-- Both arenas, in blocks apart from one another. -/
structure Bx (w : World) (p a h r : Nat) (g : Nat → Nat) (c : Cfg) (x : Tps) (sw : Bool) (ws : Nat → Int) : Prop where
  bo : Bo w p a h r g c x sw ws
  tb : ∀ q, q ∈ a :: h :: rft r g → q ≠ 1 ∧ q ≠ 0
  rd : ∀ q, q ∈ rft r g → q ≠ a ∧ q ≠ h ∧ q ≠ p
  pd : p ≠ a ∧ p ≠ h

section
variable {w w1 w2 : World} {p a h r : Nat} {g : Nat → Nat} {c : Cfg} {x x' : Tps} {sw sw' : Bool} {ws ws' : Nat → Int}

/-- Behind the program's call. -/
theorem Bx.got (H : Bx w p a h r g c x sw ws) (hA : Ar w1 a h c x' sw' ws') (t : Touch [a, h] w w1) : Ow w1 p a r ∧ Ra w1 r g c x sw ws ∧ Laid w1 := by
  refine ⟨H.bo.own.of_block (t.block _ H.bo.own.lt (by simp [H.pd])), H.bo.ra.touch t (fun q hq => by have := H.rd q hq; simp [this]), H.bo.la.touch t ?_ ?_⟩
  · have h1 := H.tb a (by simp)
    have h2 := H.tb h (by simp)
    simp [h1.1.symm, h2.1.symm]
  · have h1 := H.tb a (by simp)
    have h2 := H.tb h (by simp)
    simp [h1.2.symm, h2.2.symm]

/-- Behind the document's. -/
theorem Bx.want (H : Bx w p a h r g c x sw ws) (hA : Ar w1 a h c x' sw' ws') (t : Touch [a, h] w w1) (hR : Ra w2 r g c x' sw' ws') (t2 : Touch (rft r g) w1 w2) : Bx w2 p a h r g c x' sw' ws' ∧ Touch (a :: h :: rft r g) w w2 := by
  obtain ⟨q1, q2, q3⟩ := H.got hA t
  refine ⟨⟨⟨q1.of_block (t2.block _ q1.lt (fun hm => (H.rd p hm).2.2 rfl)), hA.touch t2 (fun hm => (H.rd a hm).1 rfl) (fun hm => (H.rd h hm).2.1 rfl), hR, q3.touch t2 (fun hm => (H.tb _ (by simp [hm])).1 rfl) (fun hm => (H.tb _ (by simp [hm])).2 rfl)⟩, H.tb, H.rd, H.pd⟩, ?_⟩
  exact (t.mono (fun k hk => .inl (by simp at hk ⊢; rcases hk with rfl | rfl <;> simp))).trans (t2.mono (fun k hk => .inl (by simp [hk])))

theorem Bx.below (H : Bx w p a h r g c x sw ws) (l : Below w.heap.size w w1) : Bx w1 p a h r g c x sw ws := ⟨H.bo.below l, H.tb, H.rd, H.pd⟩
end

section
variable (p a h r : Nat) (g : Nat → Nat) (c : Cfg) (x : Tps) (sw : Bool) (ws : Nat → Int)

set_option maxHeartbeats 4000000 in
theorem write1_core (V : Int) (d : Bool) (x' : Tps) (sw' : Bool) (ws' : Nat → Int) (o : Opg) (ho : o.k = 1)
    (h1 : ∀ w1, Bx w1 p a h r g c x sw ws → Calls Tryz.prog 49 #[.pointer (some ⟨a, 0, none⟩), .int .i64 o.sp, .int .i64 o.at_] w1 fun e w' => e = .returned (.tuple #[.int .i64 V, .bool d]) ∧ Ar w' a h c x' sw' ws' ∧ Touch [a, h] w1 w')
    (h2 : ∀ w1, Ra w1 r g c x sw ws → Calls Tryz.prog 56 #[.pointer (some ⟨r, 0, none⟩), .int .i64 o.sp, .int .i64 o.at_] w1 fun e w' => e = .returned (.tuple #[.int .i64 V, .bool d]) ∧ Ra w' r g c x' sw' ws' ∧ Touch (rft r g) w1 w')
    (w : World) (hB : Bx w p a h r g c x sw ws) :
    Calls Tryz.prog 17 #[.pointer (some ⟨p, 0, none⟩), o.val] w fun e w' => e = .returned (.bool true) ∧ Bx w' p a h r g c x' sw' ws' ∧ Touch (a :: h :: rft r g) w w' := by
  have l0 : Hid (Below w.heap.size w (w.alloc (.cells o.cells 33))) := Below.alloc (Below.refl _ _) (Nat.le_refl _) _
  have hO := Ob.new w o
  have HB : Hid (Bx (w.alloc (.cells o.cells 33)) p a h r g c x sw ws) := hB.below l0.out
  have Hsz : Hid (a < w.heap.size ∧ h < w.heap.size ∧ ∀ q, q ∈ rft r g → q < w.heap.size) := ⟨hB.bo.ar.own.lt, hB.bo.ar.row.lt, hB.bo.ra.lt⟩
  have H1 : Hid (∀ w1, Bx w1 p a h r g c x sw ws → Calls Tryz.prog 49 #[.pointer (some ⟨a, 0, none⟩), .int .i64 o.sp, .int .i64 o.at_] w1 fun e w' => e = .returned (.tuple #[.int .i64 V, .bool d]) ∧ Ar w' a h c x' sw' ws' ∧ Touch [a, h] w1 w') := h1
  have H2 : Hid (∀ w1, Ra w1 r g c x sw ws → Calls Tryz.prog 56 #[.pointer (some ⟨r, 0, none⟩), .int .i64 o.sp, .int .i64 o.at_] w1 fun e w' => e = .returned (.tuple #[.int .i64 V, .bool d]) ∧ Ra w' r g c x' sw' ws' ∧ Touch (rft r g) w1 w') := h2
  clear hB h1 h2
  go_enter Tryz.func17, Tryz.ntmps17
  go_upto_region 1 with fail
  have k0 : (w.alloc (.cells o.cells 33)).cell? ⟨w.heap.size, 0, none⟩ = some (.int .i64 1) := by rw [hO.cell 0, ← ho]; rfl
  have k2 : (w.alloc (.cells o.cells 33)).cell? ⟨w.heap.size, 2, none⟩ = some (.int .i64 o.sp) := hO.cell 2
  have k3 : (w.alloc (.cells o.cells 33)).cell? ⟨w.heap.size, 3, none⟩ = some (.int .i64 o.at_) := hO.cell 3
  generalize w.alloc (.cells o.cells 33) = v at *
  have c0 := HB.out.bo.c0
  have HO : Hid (Ob v w.heap.size o) := hO
  clear hO
  have bd : Below v.heap.size v v.drew := below_drewN (Below.refl _ _) 1
  have hc := H1.out v.drew (HB.out.below bd)
  go_upto_region 3 with fail
  refine quiet_call 8 mixed (by kernel_rfl) ?_
  simp only [List.take_succ_cons, List.take_zero, List.drop_succ_cons, List.drop_zero]
  repeat (go_big_quiet_step (fail))
  refine wpQuiet_nil ?_
  go_wp2_with fail
  refine hc.mono ?_
  rintro e w1 ⟨rfl, hA1, t1⟩
  have tv : Touch [a, h] v w1 := (Touch.of_below bd [a, h]).trans t1
  obtain ⟨q1, q2, q3⟩ := HB.out.got hA1 tv
  have hO1 : Ob w1 w.heap.size o := ⟨(tv.block _ HO.out.lt (by have := Hsz.out; simp; omega)).trans HO.out.is⟩
  have HA1 : Hid (Ar w1 a h c x' sw' ws' ∧ Touch [a, h] v w1) := ⟨hA1, tv⟩
  have HQ : Hid (Ra w1 r g c x sw ws) := q2
  have c1 : w1.cell? ⟨p, 1, none⟩ = some (.pointer (some ⟨r, 0, none⟩)) := Ow.c1 q1
  clear k0 k2 k3 c0 bd t1 H1 hc HO hA1 tv q1 q2 q3
  go_wp2_with fail
  refine thenQuiet_mk ?_
  repeat (go_big_quiet_step (fail))
  refine wpQuiet_nil ?_
  go_upto_region 4 with fail
  have k2 : w1.cell? ⟨w.heap.size, 2, none⟩ = some (.int .i64 o.sp) := hO1.cell 2
  have k3 : w1.cell? ⟨w.heap.size, 3, none⟩ = some (.int .i64 o.at_) := hO1.cell 3
  have bd : Below w1.heap.size w1 w1.drew := below_drewN (Below.refl _ _) 1
  have hc := H2.out w1.drew (HQ.out.below bd)
  refine quiet_call 8 mixed (by kernel_rfl) ?_
  simp only [List.take_succ_cons, List.take_zero, List.drop_succ_cons, List.drop_zero]
  repeat (go_big_quiet_step (fail))
  refine wpQuiet_nil ?_
  go_wp2_with fail
  refine hc.mono ?_
  rintro e w2 ⟨rfl, hR2, t2⟩
  obtain ⟨z1, z2⟩ := HB.out.want HA1.out.1 HA1.out.2 hR2 ((Touch.of_below bd (rft r g)).trans t2)
  have HZ : Hid (Bx w2 p a h r g c x' sw' ws' ∧ Touch (a :: h :: rft r g) w w2) := ⟨z1, (Touch.of_below l0.out _).trans z2⟩
  clear k2 k3 c1 bd t2 H2 hc hO1 HA1 HQ hR2 z1 z2 HB
  go_wp2_with fail
  refine thenQuiet_mk ?_
  repeat (go_big_quiet_step (fail))
  refine wpQuiet_nil ?_
  go_wp2
  go_ret
  exact ⟨by simp, HZ.out⟩

set_option maxHeartbeats 4000000 in
theorem write2_core (d : Bool) (x' : Tps) (sw' : Bool) (ws' : Nat → Int) (o : Opg) (ho : o.k = 2)
    (h1 : ∀ w1, Bx w1 p a h r g c x sw ws → Calls Tryz.prog 57 #[.pointer (some ⟨a, 0, none⟩), .int .i64 o.sp, .int .i64 o.at_] w1 fun e w' => e = .returned (.bool d) ∧ Ar w' a h c x' sw' ws' ∧ Touch [a, h] w1 w')
    (h2 : ∀ w1, Ra w1 r g c x sw ws → Calls Tryz.prog 58 #[.pointer (some ⟨r, 0, none⟩), .int .i64 o.sp, .int .i64 o.at_] w1 fun e w' => e = .returned (.bool d) ∧ Ra w' r g c x' sw' ws' ∧ Touch (rft r g) w1 w')
    (w : World) (hB : Bx w p a h r g c x sw ws) :
    Calls Tryz.prog 17 #[.pointer (some ⟨p, 0, none⟩), o.val] w fun e w' => e = .returned (.bool true) ∧ Bx w' p a h r g c x' sw' ws' ∧ Touch (a :: h :: rft r g) w w' := by
  have l0 : Hid (Below w.heap.size w (w.alloc (.cells o.cells 33))) := Below.alloc (Below.refl _ _) (Nat.le_refl _) _
  have hO := Ob.new w o
  have HB : Hid (Bx (w.alloc (.cells o.cells 33)) p a h r g c x sw ws) := hB.below l0.out
  have Hsz : Hid (a < w.heap.size ∧ h < w.heap.size ∧ ∀ q, q ∈ rft r g → q < w.heap.size) := ⟨hB.bo.ar.own.lt, hB.bo.ar.row.lt, hB.bo.ra.lt⟩
  have H1 : Hid (∀ w1, Bx w1 p a h r g c x sw ws → Calls Tryz.prog 57 #[.pointer (some ⟨a, 0, none⟩), .int .i64 o.sp, .int .i64 o.at_] w1 fun e w' => e = .returned (.bool d) ∧ Ar w' a h c x' sw' ws' ∧ Touch [a, h] w1 w') := h1
  have H2 : Hid (∀ w1, Ra w1 r g c x sw ws → Calls Tryz.prog 58 #[.pointer (some ⟨r, 0, none⟩), .int .i64 o.sp, .int .i64 o.at_] w1 fun e w' => e = .returned (.bool d) ∧ Ra w' r g c x' sw' ws' ∧ Touch (rft r g) w1 w') := h2
  clear hB h1 h2
  go_enter Tryz.func17, Tryz.ntmps17
  go_upto_region 1 with fail
  have k0 : (w.alloc (.cells o.cells 33)).cell? ⟨w.heap.size, 0, none⟩ = some (.int .i64 2) := by rw [hO.cell 0, ← ho]; rfl
  have k2 : (w.alloc (.cells o.cells 33)).cell? ⟨w.heap.size, 2, none⟩ = some (.int .i64 o.sp) := hO.cell 2
  have k3 : (w.alloc (.cells o.cells 33)).cell? ⟨w.heap.size, 3, none⟩ = some (.int .i64 o.at_) := hO.cell 3
  generalize w.alloc (.cells o.cells 33) = v at *
  have c0 := HB.out.bo.c0
  have HO : Hid (Ob v w.heap.size o) := hO
  clear hO
  have bd : Below v.heap.size v v.drew := below_drewN (Below.refl _ _) 1
  have hc := H1.out v.drew (HB.out.below bd)
  go_upto_region 7 with fail
  refine quiet_call 8 mixed (by kernel_rfl) ?_
  simp only [List.take_succ_cons, List.take_zero, List.drop_succ_cons, List.drop_zero]
  repeat (go_big_quiet_step (fail))
  refine wpQuiet_nil ?_
  go_wp2_with fail
  refine hc.mono ?_
  rintro e w1 ⟨rfl, hA1, t1⟩
  have tv : Touch [a, h] v w1 := (Touch.of_below bd [a, h]).trans t1
  obtain ⟨q1, q2, q3⟩ := HB.out.got hA1 tv
  have hO1 : Ob w1 w.heap.size o := ⟨(tv.block _ HO.out.lt (by have := Hsz.out; simp; omega)).trans HO.out.is⟩
  have HA1 : Hid (Ar w1 a h c x' sw' ws' ∧ Touch [a, h] v w1) := ⟨hA1, tv⟩
  have HQ : Hid (Ra w1 r g c x sw ws) := q2
  have c1 : w1.cell? ⟨p, 1, none⟩ = some (.pointer (some ⟨r, 0, none⟩)) := Ow.c1 q1
  clear k0 k2 k3 c0 bd t1 H1 hc HO hA1 tv q1 q2 q3
  go_wp2_with fail
  refine thenQuiet_mk ?_
  repeat (go_big_quiet_step (fail))
  refine wpQuiet_nil ?_
  go_upto_region 8 with fail
  have k2 : w1.cell? ⟨w.heap.size, 2, none⟩ = some (.int .i64 o.sp) := hO1.cell 2
  have k3 : w1.cell? ⟨w.heap.size, 3, none⟩ = some (.int .i64 o.at_) := hO1.cell 3
  have bd : Below w1.heap.size w1 w1.drew := below_drewN (Below.refl _ _) 1
  have hc := H2.out w1.drew (HQ.out.below bd)
  have HO1 : Hid (Ob w1 w.heap.size o) := hO1
  clear hO1
  go_region_held3 (fun w' => w'.cell? ⟨p, 1, none⟩ = some (.pointer (some ⟨r, 0, none⟩)) ∧ w'.cell? ⟨w.heap.size, 2, none⟩ = some (.int .i64 o.sp) ∧ w'.cell? ⟨w.heap.size, 3, none⟩ = some (.int .i64 o.at_)) (first | go_keep | exact (And.intro ‹_› (And.intro ‹_› ‹_›))) (first | (go_at_call 58; refine hc.mono ?_; rintro e w2 ⟨rfl, hR2, t2⟩; have t2' : Touch (rft r g) w1 w2 := (Touch.of_below bd (rft r g)).trans t2; have zz := HB.out.want HA1.out.1 HA1.out.2 hR2 t2'; have mm : w2.cell? ⟨p, 1, none⟩ = some (.pointer (some ⟨r, 0, none⟩)) ∧ Ob w2 w.heap.size o := ⟨zz.1.bo.c1, ⟨(t2'.block _ HO1.out.lt (fun hm => by have := Hsz.out.2.2 _ hm; omega)).trans HO1.out.is⟩⟩; have m1 : w2.cell? ⟨p, 1, none⟩ = some (.pointer (some ⟨r, 0, none⟩)) := mm.1; have m2 : w2.cell? ⟨w.heap.size, 2, none⟩ = some (.int .i64 o.sp) := mm.2.cell 2; have m3 : w2.cell? ⟨w.heap.size, 3, none⟩ = some (.int .i64 o.at_) := mm.2.cell 3))
  have HZ : Hid (Bx w2 p a h r g c x' sw' ws' ∧ Touch (a :: h :: rft r g) w w2) := ⟨zz.1, (Touch.of_below l0.out _).trans zz.2⟩
  clear k2 k3 c1 bd t2 H2 hc HO1 HA1 HQ hR2 HB mm zz t2' m1 m2 m3
  go_wp2
  go_ret
  exact ⟨by simp, HZ.out⟩

set_option maxHeartbeats 4000000 in
theorem write5_core (d : Bool) (x' : Tps) (sw' : Bool) (ws' : Nat → Int) (o : Opg) (ho : o.k = 5)
    (h1 : ∀ w1, Bx w1 p a h r g c x sw ws → Calls Tryz.prog 62 #[.pointer (some ⟨a, 0, none⟩), .int .i64 o.sp, .int .i64 o.at_] w1 fun e w' => e = .returned (.bool d) ∧ Ar w' a h c x' sw' ws' ∧ Touch [a, h] w1 w')
    (h2 : ∀ w1, Ra w1 r g c x sw ws → Calls Tryz.prog 63 #[.pointer (some ⟨r, 0, none⟩), .int .i64 o.sp, .int .i64 o.at_] w1 fun e w' => e = .returned (.bool d) ∧ Ra w' r g c x' sw' ws' ∧ Touch (rft r g) w1 w')
    (w : World) (hB : Bx w p a h r g c x sw ws) :
    Calls Tryz.prog 17 #[.pointer (some ⟨p, 0, none⟩), o.val] w fun e w' => e = .returned (.bool true) ∧ Bx w' p a h r g c x' sw' ws' ∧ Touch (a :: h :: rft r g) w w' := by
  have l0 : Hid (Below w.heap.size w (w.alloc (.cells o.cells 33))) := Below.alloc (Below.refl _ _) (Nat.le_refl _) _
  have hO := Ob.new w o
  have HB : Hid (Bx (w.alloc (.cells o.cells 33)) p a h r g c x sw ws) := hB.below l0.out
  have Hsz : Hid (a < w.heap.size ∧ h < w.heap.size ∧ ∀ q, q ∈ rft r g → q < w.heap.size) := ⟨hB.bo.ar.own.lt, hB.bo.ar.row.lt, hB.bo.ra.lt⟩
  have H1 : Hid (∀ w1, Bx w1 p a h r g c x sw ws → Calls Tryz.prog 62 #[.pointer (some ⟨a, 0, none⟩), .int .i64 o.sp, .int .i64 o.at_] w1 fun e w' => e = .returned (.bool d) ∧ Ar w' a h c x' sw' ws' ∧ Touch [a, h] w1 w') := h1
  have H2 : Hid (∀ w1, Ra w1 r g c x sw ws → Calls Tryz.prog 63 #[.pointer (some ⟨r, 0, none⟩), .int .i64 o.sp, .int .i64 o.at_] w1 fun e w' => e = .returned (.bool d) ∧ Ra w' r g c x' sw' ws' ∧ Touch (rft r g) w1 w') := h2
  clear hB h1 h2
  go_enter Tryz.func17, Tryz.ntmps17
  go_upto_region 1 with fail
  have k0 : (w.alloc (.cells o.cells 33)).cell? ⟨w.heap.size, 0, none⟩ = some (.int .i64 5) := by rw [hO.cell 0, ← ho]; rfl
  have k2 : (w.alloc (.cells o.cells 33)).cell? ⟨w.heap.size, 2, none⟩ = some (.int .i64 o.sp) := hO.cell 2
  have k3 : (w.alloc (.cells o.cells 33)).cell? ⟨w.heap.size, 3, none⟩ = some (.int .i64 o.at_) := hO.cell 3
  generalize w.alloc (.cells o.cells 33) = v at *
  have c0 := HB.out.bo.c0
  have HO : Hid (Ob v w.heap.size o) := hO
  clear hO
  have bd : Below v.heap.size v v.drew := below_drewN (Below.refl _ _) 1
  have hc := H1.out v.drew (HB.out.below bd)
  go_upto_region 18 with fail
  refine quiet_call 8 mixed (by kernel_rfl) ?_
  simp only [List.take_succ_cons, List.take_zero, List.drop_succ_cons, List.drop_zero]
  repeat (go_big_quiet_step (fail))
  refine wpQuiet_nil ?_
  go_wp2_with fail
  refine hc.mono ?_
  rintro e w1 ⟨rfl, hA1, t1⟩
  have tv : Touch [a, h] v w1 := (Touch.of_below bd [a, h]).trans t1
  obtain ⟨q1, q2, q3⟩ := HB.out.got hA1 tv
  have hO1 : Ob w1 w.heap.size o := ⟨(tv.block _ HO.out.lt (by have := Hsz.out; simp; omega)).trans HO.out.is⟩
  have HA1 : Hid (Ar w1 a h c x' sw' ws' ∧ Touch [a, h] v w1) := ⟨hA1, tv⟩
  have HQ : Hid (Ra w1 r g c x sw ws) := q2
  have c1 : w1.cell? ⟨p, 1, none⟩ = some (.pointer (some ⟨r, 0, none⟩)) := Ow.c1 q1
  clear k0 k2 k3 c0 bd t1 H1 hc HO hA1 tv q1 q2 q3
  go_wp2_with fail
  refine thenQuiet_mk ?_
  repeat (go_big_quiet_step (fail))
  refine wpQuiet_nil ?_
  go_upto_region 19 with fail
  have k2 : w1.cell? ⟨w.heap.size, 2, none⟩ = some (.int .i64 o.sp) := hO1.cell 2
  have k3 : w1.cell? ⟨w.heap.size, 3, none⟩ = some (.int .i64 o.at_) := hO1.cell 3
  have bd : Below w1.heap.size w1 w1.drew := below_drewN (Below.refl _ _) 1
  have hc := H2.out w1.drew (HQ.out.below bd)
  have HO1 : Hid (Ob w1 w.heap.size o) := hO1
  clear hO1
  go_region_held3 (fun w' => w'.cell? ⟨p, 1, none⟩ = some (.pointer (some ⟨r, 0, none⟩)) ∧ w'.cell? ⟨w.heap.size, 2, none⟩ = some (.int .i64 o.sp) ∧ w'.cell? ⟨w.heap.size, 3, none⟩ = some (.int .i64 o.at_)) (first | go_keep | exact (And.intro ‹_› (And.intro ‹_› ‹_›))) (first | (go_at_call 63; refine hc.mono ?_; rintro e w2 ⟨rfl, hR2, t2⟩; have t2' : Touch (rft r g) w1 w2 := (Touch.of_below bd (rft r g)).trans t2; have zz := HB.out.want HA1.out.1 HA1.out.2 hR2 t2'; have mm : w2.cell? ⟨p, 1, none⟩ = some (.pointer (some ⟨r, 0, none⟩)) ∧ Ob w2 w.heap.size o := ⟨zz.1.bo.c1, ⟨(t2'.block _ HO1.out.lt (fun hm => by have := Hsz.out.2.2 _ hm; omega)).trans HO1.out.is⟩⟩; have m1 : w2.cell? ⟨p, 1, none⟩ = some (.pointer (some ⟨r, 0, none⟩)) := mm.1; have m2 : w2.cell? ⟨w.heap.size, 2, none⟩ = some (.int .i64 o.sp) := mm.2.cell 2; have m3 : w2.cell? ⟨w.heap.size, 3, none⟩ = some (.int .i64 o.at_) := mm.2.cell 3))
  have HZ : Hid (Bx w2 p a h r g c x' sw' ws' ∧ Touch (a :: h :: rft r g) w w2) := ⟨zz.1, (Touch.of_below l0.out _).trans zz.2⟩
  clear k2 k3 c1 bd t2 H2 hc HO1 HA1 HQ hR2 HB mm zz t2' m1 m2 m3
  go_wp2
  go_ret
  exact ⟨by simp, HZ.out⟩

set_option maxHeartbeats 4000000 in
theorem write7_core (d : Bool) (x' : Tps) (sw' : Bool) (ws' : Nat → Int) (o : Opg) (ho : o.k = 7)
    (h1 : ∀ w1, Bx w1 p a h r g c x sw ws → Calls Tryz.prog 66 #[.pointer (some ⟨a, 0, none⟩), .int .i64 o.at_, .int .i64 o.i, .int .i64 o.n] w1 fun e w' => e = .returned (.bool d) ∧ Ar w' a h c x' sw' ws' ∧ Touch [a, h] w1 w')
    (h2 : ∀ w1, Ra w1 r g c x sw ws → Calls Tryz.prog 67 #[.pointer (some ⟨r, 0, none⟩), .int .i64 o.at_, .int .i64 o.i, .int .i64 o.n] w1 fun e w' => e = .returned (.bool d) ∧ Ra w' r g c x' sw' ws' ∧ Touch (rft r g) w1 w')
    (w : World) (hB : Bx w p a h r g c x sw ws) :
    Calls Tryz.prog 17 #[.pointer (some ⟨p, 0, none⟩), o.val] w fun e w' => e = .returned (.bool true) ∧ Bx w' p a h r g c x' sw' ws' ∧ Touch (a :: h :: rft r g) w w' := by
  have l0 : Hid (Below w.heap.size w (w.alloc (.cells o.cells 33))) := Below.alloc (Below.refl _ _) (Nat.le_refl _) _
  have hO := Ob.new w o
  have HB : Hid (Bx (w.alloc (.cells o.cells 33)) p a h r g c x sw ws) := hB.below l0.out
  have Hsz : Hid (a < w.heap.size ∧ h < w.heap.size ∧ ∀ q, q ∈ rft r g → q < w.heap.size) := ⟨hB.bo.ar.own.lt, hB.bo.ar.row.lt, hB.bo.ra.lt⟩
  have H1 : Hid (∀ w1, Bx w1 p a h r g c x sw ws → Calls Tryz.prog 66 #[.pointer (some ⟨a, 0, none⟩), .int .i64 o.at_, .int .i64 o.i, .int .i64 o.n] w1 fun e w' => e = .returned (.bool d) ∧ Ar w' a h c x' sw' ws' ∧ Touch [a, h] w1 w') := h1
  have H2 : Hid (∀ w1, Ra w1 r g c x sw ws → Calls Tryz.prog 67 #[.pointer (some ⟨r, 0, none⟩), .int .i64 o.at_, .int .i64 o.i, .int .i64 o.n] w1 fun e w' => e = .returned (.bool d) ∧ Ra w' r g c x' sw' ws' ∧ Touch (rft r g) w1 w') := h2
  clear hB h1 h2
  go_enter Tryz.func17, Tryz.ntmps17
  go_upto_region 1 with fail
  have k0 : (w.alloc (.cells o.cells 33)).cell? ⟨w.heap.size, 0, none⟩ = some (.int .i64 7) := by rw [hO.cell 0, ← ho]; rfl
  have k3 : (w.alloc (.cells o.cells 33)).cell? ⟨w.heap.size, 3, none⟩ = some (.int .i64 o.at_) := hO.cell 3
  have k4 : (w.alloc (.cells o.cells 33)).cell? ⟨w.heap.size, 4, none⟩ = some (.int .i64 o.i) := hO.cell 4
  have k5 : (w.alloc (.cells o.cells 33)).cell? ⟨w.heap.size, 5, none⟩ = some (.int .i64 o.n) := hO.cell 5
  generalize w.alloc (.cells o.cells 33) = v at *
  have c0 := HB.out.bo.c0
  have HO : Hid (Ob v w.heap.size o) := hO
  clear hO
  have bd : Below v.heap.size v v.drew := below_drewN (Below.refl _ _) 1
  have hc := H1.out v.drew (HB.out.below bd)
  go_upto_region 24 with fail
  refine quiet_call 10 mixed (by kernel_rfl) ?_
  simp only [List.take_succ_cons, List.take_zero, List.drop_succ_cons, List.drop_zero]
  repeat (go_big_quiet_step (fail))
  refine wpQuiet_nil ?_
  go_wp2_with fail
  refine hc.mono ?_
  rintro e w1 ⟨rfl, hA1, t1⟩
  have tv : Touch [a, h] v w1 := (Touch.of_below bd [a, h]).trans t1
  obtain ⟨q1, q2, q3⟩ := HB.out.got hA1 tv
  have hO1 : Ob w1 w.heap.size o := ⟨(tv.block _ HO.out.lt (by have := Hsz.out; simp; omega)).trans HO.out.is⟩
  have HA1 : Hid (Ar w1 a h c x' sw' ws' ∧ Touch [a, h] v w1) := ⟨hA1, tv⟩
  have HQ : Hid (Ra w1 r g c x sw ws) := q2
  have c1 : w1.cell? ⟨p, 1, none⟩ = some (.pointer (some ⟨r, 0, none⟩)) := Ow.c1 q1
  clear k0 k3 k4 k5 c0 bd t1 H1 hc HO hA1 tv q1 q2 q3
  go_wp2_with fail
  refine thenQuiet_mk ?_
  repeat (go_big_quiet_step (fail))
  refine wpQuiet_nil ?_
  go_upto_region 25 with fail
  have k3 : w1.cell? ⟨w.heap.size, 3, none⟩ = some (.int .i64 o.at_) := hO1.cell 3
  have k4 : w1.cell? ⟨w.heap.size, 4, none⟩ = some (.int .i64 o.i) := hO1.cell 4
  have k5 : w1.cell? ⟨w.heap.size, 5, none⟩ = some (.int .i64 o.n) := hO1.cell 5
  have bd : Below w1.heap.size w1 w1.drew := below_drewN (Below.refl _ _) 1
  have hc := H2.out w1.drew (HQ.out.below bd)
  have HO1 : Hid (Ob w1 w.heap.size o) := hO1
  clear hO1
  go_region_held3 (fun w' => w'.cell? ⟨p, 1, none⟩ = some (.pointer (some ⟨r, 0, none⟩)) ∧ w'.cell? ⟨w.heap.size, 3, none⟩ = some (.int .i64 o.at_) ∧ w'.cell? ⟨w.heap.size, 4, none⟩ = some (.int .i64 o.i) ∧ w'.cell? ⟨w.heap.size, 5, none⟩ = some (.int .i64 o.n)) (first | go_keep | exact (And.intro ‹_› (And.intro ‹_› (And.intro ‹_› ‹_›)))) (first | (go_at_call 67; refine hc.mono ?_; rintro e w2 ⟨rfl, hR2, t2⟩; have t2' : Touch (rft r g) w1 w2 := (Touch.of_below bd (rft r g)).trans t2; have zz := HB.out.want HA1.out.1 HA1.out.2 hR2 t2'; have mm : w2.cell? ⟨p, 1, none⟩ = some (.pointer (some ⟨r, 0, none⟩)) ∧ Ob w2 w.heap.size o := ⟨zz.1.bo.c1, ⟨(t2'.block _ HO1.out.lt (fun hm => by have := Hsz.out.2.2 _ hm; omega)).trans HO1.out.is⟩⟩; have m1 : w2.cell? ⟨p, 1, none⟩ = some (.pointer (some ⟨r, 0, none⟩)) := mm.1; have m3 : w2.cell? ⟨w.heap.size, 3, none⟩ = some (.int .i64 o.at_) := mm.2.cell 3; have m4 : w2.cell? ⟨w.heap.size, 4, none⟩ = some (.int .i64 o.i) := mm.2.cell 4; have m5 : w2.cell? ⟨w.heap.size, 5, none⟩ = some (.int .i64 o.n) := mm.2.cell 5))
  have HZ : Hid (Bx w2 p a h r g c x' sw' ws' ∧ Touch (a :: h :: rft r g) w w2) := ⟨zz.1, (Touch.of_below l0.out _).trans zz.2⟩
  clear k3 k4 k5 c1 bd t2 H2 hc HO1 HA1 HQ hR2 HB mm zz t2' m1 m3 m4 m5
  go_wp2
  go_ret
  exact ⟨by simp, HZ.out⟩

set_option maxHeartbeats 4000000 in
theorem write8_core (d : Bool) (x' : Tps) (sw' : Bool) (ws' : Nat → Int) (o : Opg) (ho : o.k = 8)
    (h1 : ∀ w1, Bx w1 p a h r g c x sw ws → Calls Tryz.prog 68 #[.pointer (some ⟨a, 0, none⟩), .int .i64 o.at_, .int .i64 o.i, .int .u64 o.u] w1 fun e w' => e = .returned (.bool d) ∧ Ar w' a h c x' sw' ws' ∧ Touch [a, h] w1 w')
    (h2 : ∀ w1, Ra w1 r g c x sw ws → Calls Tryz.prog 69 #[.pointer (some ⟨r, 0, none⟩), .int .i64 o.at_, .int .i64 o.i, .int .u64 o.u] w1 fun e w' => e = .returned (.bool d) ∧ Ra w' r g c x' sw' ws' ∧ Touch (rft r g) w1 w')
    (w : World) (hB : Bx w p a h r g c x sw ws) :
    Calls Tryz.prog 17 #[.pointer (some ⟨p, 0, none⟩), o.val] w fun e w' => e = .returned (.bool true) ∧ Bx w' p a h r g c x' sw' ws' ∧ Touch (a :: h :: rft r g) w w' := by
  have l0 : Hid (Below w.heap.size w (w.alloc (.cells o.cells 33))) := Below.alloc (Below.refl _ _) (Nat.le_refl _) _
  have hO := Ob.new w o
  have HB : Hid (Bx (w.alloc (.cells o.cells 33)) p a h r g c x sw ws) := hB.below l0.out
  have Hsz : Hid (a < w.heap.size ∧ h < w.heap.size ∧ ∀ q, q ∈ rft r g → q < w.heap.size) := ⟨hB.bo.ar.own.lt, hB.bo.ar.row.lt, hB.bo.ra.lt⟩
  have H1 : Hid (∀ w1, Bx w1 p a h r g c x sw ws → Calls Tryz.prog 68 #[.pointer (some ⟨a, 0, none⟩), .int .i64 o.at_, .int .i64 o.i, .int .u64 o.u] w1 fun e w' => e = .returned (.bool d) ∧ Ar w' a h c x' sw' ws' ∧ Touch [a, h] w1 w') := h1
  have H2 : Hid (∀ w1, Ra w1 r g c x sw ws → Calls Tryz.prog 69 #[.pointer (some ⟨r, 0, none⟩), .int .i64 o.at_, .int .i64 o.i, .int .u64 o.u] w1 fun e w' => e = .returned (.bool d) ∧ Ra w' r g c x' sw' ws' ∧ Touch (rft r g) w1 w') := h2
  clear hB h1 h2
  go_enter Tryz.func17, Tryz.ntmps17
  go_upto_region 1 with fail
  have k0 : (w.alloc (.cells o.cells 33)).cell? ⟨w.heap.size, 0, none⟩ = some (.int .i64 8) := by rw [hO.cell 0, ← ho]; rfl
  have k3 : (w.alloc (.cells o.cells 33)).cell? ⟨w.heap.size, 3, none⟩ = some (.int .i64 o.at_) := hO.cell 3
  have k4 : (w.alloc (.cells o.cells 33)).cell? ⟨w.heap.size, 4, none⟩ = some (.int .i64 o.i) := hO.cell 4
  have k6 : (w.alloc (.cells o.cells 33)).cell? ⟨w.heap.size, 6, none⟩ = some (.int .u64 o.u) := hO.cell 6
  generalize w.alloc (.cells o.cells 33) = v at *
  have c0 := HB.out.bo.c0
  have HO : Hid (Ob v w.heap.size o) := hO
  clear hO
  have bd : Below v.heap.size v v.drew := below_drewN (Below.refl _ _) 1
  have hc := H1.out v.drew (HB.out.below bd)
  go_upto_region 27 with fail
  refine quiet_call 10 mixed (by kernel_rfl) ?_
  simp only [List.take_succ_cons, List.take_zero, List.drop_succ_cons, List.drop_zero]
  repeat (go_big_quiet_step (fail))
  refine wpQuiet_nil ?_
  go_wp2_with fail
  refine hc.mono ?_
  rintro e w1 ⟨rfl, hA1, t1⟩
  have tv : Touch [a, h] v w1 := (Touch.of_below bd [a, h]).trans t1
  obtain ⟨q1, q2, q3⟩ := HB.out.got hA1 tv
  have hO1 : Ob w1 w.heap.size o := ⟨(tv.block _ HO.out.lt (by have := Hsz.out; simp; omega)).trans HO.out.is⟩
  have HA1 : Hid (Ar w1 a h c x' sw' ws' ∧ Touch [a, h] v w1) := ⟨hA1, tv⟩
  have HQ : Hid (Ra w1 r g c x sw ws) := q2
  have c1 : w1.cell? ⟨p, 1, none⟩ = some (.pointer (some ⟨r, 0, none⟩)) := Ow.c1 q1
  clear k0 k3 k4 k6 c0 bd t1 H1 hc HO hA1 tv q1 q2 q3
  go_wp2_with fail
  refine thenQuiet_mk ?_
  repeat (go_big_quiet_step (fail))
  refine wpQuiet_nil ?_
  go_upto_region 28 with fail
  have k3 : w1.cell? ⟨w.heap.size, 3, none⟩ = some (.int .i64 o.at_) := hO1.cell 3
  have k4 : w1.cell? ⟨w.heap.size, 4, none⟩ = some (.int .i64 o.i) := hO1.cell 4
  have k6 : w1.cell? ⟨w.heap.size, 6, none⟩ = some (.int .u64 o.u) := hO1.cell 6
  have bd : Below w1.heap.size w1 w1.drew := below_drewN (Below.refl _ _) 1
  have hc := H2.out w1.drew (HQ.out.below bd)
  have HO1 : Hid (Ob w1 w.heap.size o) := hO1
  clear hO1
  go_region_held3 (fun w' => w'.cell? ⟨p, 1, none⟩ = some (.pointer (some ⟨r, 0, none⟩)) ∧ w'.cell? ⟨w.heap.size, 3, none⟩ = some (.int .i64 o.at_) ∧ w'.cell? ⟨w.heap.size, 4, none⟩ = some (.int .i64 o.i) ∧ w'.cell? ⟨w.heap.size, 6, none⟩ = some (.int .u64 o.u)) (first | go_keep | exact (And.intro ‹_› (And.intro ‹_› (And.intro ‹_› ‹_›)))) (first | (go_at_call 69; refine hc.mono ?_; rintro e w2 ⟨rfl, hR2, t2⟩; have t2' : Touch (rft r g) w1 w2 := (Touch.of_below bd (rft r g)).trans t2; have zz := HB.out.want HA1.out.1 HA1.out.2 hR2 t2'; have mm : w2.cell? ⟨p, 1, none⟩ = some (.pointer (some ⟨r, 0, none⟩)) ∧ Ob w2 w.heap.size o := ⟨zz.1.bo.c1, ⟨(t2'.block _ HO1.out.lt (fun hm => by have := Hsz.out.2.2 _ hm; omega)).trans HO1.out.is⟩⟩; have m1 : w2.cell? ⟨p, 1, none⟩ = some (.pointer (some ⟨r, 0, none⟩)) := mm.1; have m3 : w2.cell? ⟨w.heap.size, 3, none⟩ = some (.int .i64 o.at_) := mm.2.cell 3; have m4 : w2.cell? ⟨w.heap.size, 4, none⟩ = some (.int .i64 o.i) := mm.2.cell 4; have m6 : w2.cell? ⟨w.heap.size, 6, none⟩ = some (.int .u64 o.u) := mm.2.cell 6))
  have HZ : Hid (Bx w2 p a h r g c x' sw' ws' ∧ Touch (a :: h :: rft r g) w w2) := ⟨zz.1, (Touch.of_below l0.out _).trans zz.2⟩
  clear k3 k4 k6 c1 bd t2 H2 hc HO1 HA1 HQ hR2 HB mm zz t2' m1 m3 m4 m6
  go_wp2
  go_ret
  exact ⟨by simp, HZ.out⟩

set_option maxHeartbeats 4000000 in
theorem write9_core (d : Bool) (x' : Tps) (sw' : Bool) (ws' : Nat → Int) (o : Opg) (ho : o.k = 9)
    (h1 : ∀ w1, Bx w1 p a h r g c x sw ws → Calls Tryz.prog 70 #[.pointer (some ⟨a, 0, none⟩), .int .i64 o.at_, .int .u64 o.u] w1 fun e w' => e = .returned (.bool d) ∧ Ar w' a h c x' sw' ws' ∧ Touch [a, h] w1 w')
    (h2 : ∀ w1, Ra w1 r g c x sw ws → Calls Tryz.prog 71 #[.pointer (some ⟨r, 0, none⟩), .int .i64 o.at_, .int .u64 o.u] w1 fun e w' => e = .returned (.bool d) ∧ Ra w' r g c x' sw' ws' ∧ Touch (rft r g) w1 w')
    (w : World) (hB : Bx w p a h r g c x sw ws) :
    Calls Tryz.prog 17 #[.pointer (some ⟨p, 0, none⟩), o.val] w fun e w' => e = .returned (.bool true) ∧ Bx w' p a h r g c x' sw' ws' ∧ Touch (a :: h :: rft r g) w w' := by
  have l0 : Hid (Below w.heap.size w (w.alloc (.cells o.cells 33))) := Below.alloc (Below.refl _ _) (Nat.le_refl _) _
  have hO := Ob.new w o
  have HB : Hid (Bx (w.alloc (.cells o.cells 33)) p a h r g c x sw ws) := hB.below l0.out
  have Hsz : Hid (a < w.heap.size ∧ h < w.heap.size ∧ ∀ q, q ∈ rft r g → q < w.heap.size) := ⟨hB.bo.ar.own.lt, hB.bo.ar.row.lt, hB.bo.ra.lt⟩
  have H1 : Hid (∀ w1, Bx w1 p a h r g c x sw ws → Calls Tryz.prog 70 #[.pointer (some ⟨a, 0, none⟩), .int .i64 o.at_, .int .u64 o.u] w1 fun e w' => e = .returned (.bool d) ∧ Ar w' a h c x' sw' ws' ∧ Touch [a, h] w1 w') := h1
  have H2 : Hid (∀ w1, Ra w1 r g c x sw ws → Calls Tryz.prog 71 #[.pointer (some ⟨r, 0, none⟩), .int .i64 o.at_, .int .u64 o.u] w1 fun e w' => e = .returned (.bool d) ∧ Ra w' r g c x' sw' ws' ∧ Touch (rft r g) w1 w') := h2
  clear hB h1 h2
  go_enter Tryz.func17, Tryz.ntmps17
  go_upto_region 1 with fail
  have k0 : (w.alloc (.cells o.cells 33)).cell? ⟨w.heap.size, 0, none⟩ = some (.int .i64 9) := by rw [hO.cell 0, ← ho]; rfl
  have k3 : (w.alloc (.cells o.cells 33)).cell? ⟨w.heap.size, 3, none⟩ = some (.int .i64 o.at_) := hO.cell 3
  have k6 : (w.alloc (.cells o.cells 33)).cell? ⟨w.heap.size, 6, none⟩ = some (.int .u64 o.u) := hO.cell 6
  generalize w.alloc (.cells o.cells 33) = v at *
  have c0 := HB.out.bo.c0
  have HO : Hid (Ob v w.heap.size o) := hO
  clear hO
  have bd : Below v.heap.size v v.drew := below_drewN (Below.refl _ _) 1
  have hc := H1.out v.drew (HB.out.below bd)
  go_upto_region 29 with fail
  refine quiet_call 8 mixed (by kernel_rfl) ?_
  simp only [List.take_succ_cons, List.take_zero, List.drop_succ_cons, List.drop_zero]
  repeat (go_big_quiet_step (fail))
  refine wpQuiet_nil ?_
  go_wp2_with fail
  refine hc.mono ?_
  rintro e w1 ⟨rfl, hA1, t1⟩
  have tv : Touch [a, h] v w1 := (Touch.of_below bd [a, h]).trans t1
  obtain ⟨q1, q2, q3⟩ := HB.out.got hA1 tv
  have hO1 : Ob w1 w.heap.size o := ⟨(tv.block _ HO.out.lt (by have := Hsz.out; simp; omega)).trans HO.out.is⟩
  have HA1 : Hid (Ar w1 a h c x' sw' ws' ∧ Touch [a, h] v w1) := ⟨hA1, tv⟩
  have HQ : Hid (Ra w1 r g c x sw ws) := q2
  have c1 : w1.cell? ⟨p, 1, none⟩ = some (.pointer (some ⟨r, 0, none⟩)) := Ow.c1 q1
  clear k0 k3 k6 c0 bd t1 H1 hc HO hA1 tv q1 q2 q3
  go_wp2_with fail
  refine thenQuiet_mk ?_
  repeat (go_big_quiet_step (fail))
  refine wpQuiet_nil ?_
  go_upto_region 30 with fail
  have k3 : w1.cell? ⟨w.heap.size, 3, none⟩ = some (.int .i64 o.at_) := hO1.cell 3
  have k6 : w1.cell? ⟨w.heap.size, 6, none⟩ = some (.int .u64 o.u) := hO1.cell 6
  have bd : Below w1.heap.size w1 w1.drew := below_drewN (Below.refl _ _) 1
  have hc := H2.out w1.drew (HQ.out.below bd)
  have HO1 : Hid (Ob w1 w.heap.size o) := hO1
  clear hO1
  go_region_held3 (fun w' => w'.cell? ⟨p, 1, none⟩ = some (.pointer (some ⟨r, 0, none⟩)) ∧ w'.cell? ⟨w.heap.size, 3, none⟩ = some (.int .i64 o.at_) ∧ w'.cell? ⟨w.heap.size, 6, none⟩ = some (.int .u64 o.u)) (first | go_keep | exact (And.intro ‹_› (And.intro ‹_› ‹_›))) (first | (go_at_call 71; refine hc.mono ?_; rintro e w2 ⟨rfl, hR2, t2⟩; have t2' : Touch (rft r g) w1 w2 := (Touch.of_below bd (rft r g)).trans t2; have zz := HB.out.want HA1.out.1 HA1.out.2 hR2 t2'; have mm : w2.cell? ⟨p, 1, none⟩ = some (.pointer (some ⟨r, 0, none⟩)) ∧ Ob w2 w.heap.size o := ⟨zz.1.bo.c1, ⟨(t2'.block _ HO1.out.lt (fun hm => by have := Hsz.out.2.2 _ hm; omega)).trans HO1.out.is⟩⟩; have m1 : w2.cell? ⟨p, 1, none⟩ = some (.pointer (some ⟨r, 0, none⟩)) := mm.1; have m3 : w2.cell? ⟨w.heap.size, 3, none⟩ = some (.int .i64 o.at_) := mm.2.cell 3; have m6 : w2.cell? ⟨w.heap.size, 6, none⟩ = some (.int .u64 o.u) := mm.2.cell 6))
  have HZ : Hid (Bx w2 p a h r g c x' sw' ws' ∧ Touch (a :: h :: rft r g) w w2) := ⟨zz.1, (Touch.of_below l0.out _).trans zz.2⟩
  clear k3 k6 c1 bd t2 H2 hc HO1 HA1 HQ hR2 HB mm zz t2' m1 m3 m6
  go_wp2
  go_ret
  exact ⟨by simp, HZ.out⟩

end

end Go.Proofs.YtbdkcelggffneaaGreatDoor
