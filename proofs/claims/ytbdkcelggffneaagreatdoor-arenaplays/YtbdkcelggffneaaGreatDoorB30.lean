/-
  The two arenas side by side: writes of the kinds 4 and 6.
-/
import Derived.Test.YtbdkcelggffneaaGreatDoorB29
set_option linter.unusedVariables false
set_option maxRecDepth 20000
namespace Go.Proofs.YtbdkcelggffneaaGreatDoor
open Go.RowKit Go.Shelf

section
variable (p a h r : Nat) (g : Nat → Nat) (c : Cfg) (x : Tps) (sw : Bool) (ws : Nat → Int)

set_option maxHeartbeats 4000000 in
theorem write4_core (V : Int) (d : Bool) (x' : Tps) (sw' : Bool) (ws' : Nat → Int) (o : Opg) (ho : o.k = 4)
    (h1 : ∀ w1, Bx w1 p a h r g c x sw ws → Calls Tryz.prog 14 #[.pointer (some ⟨a, 0, none⟩), .int .i64 o.sp, hv o.s o.hk o.p o.r o.ag o.t o.h] w1 fun e w' => e = .returned (.tuple #[.int .i64 V, .bool d]) ∧ Ar w' a h c x' sw' ws' ∧ Touch [a, h] w1 w')
    (h2 : ∀ w1, Ra w1 r g c x sw ws → Calls Tryz.prog 61 #[.pointer (some ⟨r, 0, none⟩), .int .i64 o.sp, hv o.s o.hk o.p o.r o.ag o.t o.h] w1 fun e w' => e = .returned (.tuple #[.int .i64 V, .bool d]) ∧ Ra w' r g c x' sw' ws' ∧ Touch (rft r g) w1 w')
    (w : World) (hB : Bx w p a h r g c x sw ws) :
    Calls Tryz.prog 17 #[.pointer (some ⟨p, 0, none⟩), o.val] w fun e w' => e = .returned (.bool true) ∧ Bx w' p a h r g c x' sw' ws' ∧ Touch (a :: h :: rft r g) w w' := by
  have l0 : Hid (Below w.heap.size w (w.alloc (.cells o.cells 33))) := Below.alloc (Below.refl _ _) (Nat.le_refl _) _
  have hO := Ob.new w o
  have HB : Hid (Bx (w.alloc (.cells o.cells 33)) p a h r g c x sw ws) := hB.below l0.out
  have Hsz : Hid (a < w.heap.size ∧ h < w.heap.size ∧ ∀ q, q ∈ rft r g → q < w.heap.size) := ⟨hB.bo.ar.own.lt, hB.bo.ar.row.lt, hB.bo.ra.lt⟩
  have H1 : Hid (∀ w1, Bx w1 p a h r g c x sw ws → Calls Tryz.prog 14 #[.pointer (some ⟨a, 0, none⟩), .int .i64 o.sp, hv o.s o.hk o.p o.r o.ag o.t o.h] w1 fun e w' => e = .returned (.tuple #[.int .i64 V, .bool d]) ∧ Ar w' a h c x' sw' ws' ∧ Touch [a, h] w1 w') := h1
  have H2 : Hid (∀ w1, Ra w1 r g c x sw ws → Calls Tryz.prog 61 #[.pointer (some ⟨r, 0, none⟩), .int .i64 o.sp, hv o.s o.hk o.p o.r o.ag o.t o.h] w1 fun e w' => e = .returned (.tuple #[.int .i64 V, .bool d]) ∧ Ra w' r g c x' sw' ws' ∧ Touch (rft r g) w1 w') := h2
  clear hB h1 h2
  go_enter Tryz.func17, Tryz.ntmps17
  go_upto_region 1 with fail
  have k0 : (w.alloc (.cells o.cells 33)).cell? ⟨w.heap.size, 0, none⟩ = some (.int .i64 4) := by rw [hO.cell 0, ← ho]; rfl
  have k2 : (w.alloc (.cells o.cells 33)).cell? ⟨w.heap.size, 2, none⟩ = some (.int .i64 o.sp) := hO.cell 2
  have k7 : (w.alloc (.cells o.cells 33)).cell? ⟨w.heap.size, 7, none⟩ = some (.int .u64 o.s) := hO.cell 7
  have k8 : (w.alloc (.cells o.cells 33)).cell? ⟨w.heap.size, 8, none⟩ = some (.int .i64 o.hk) := hO.cell 8
  have k9 : (w.alloc (.cells o.cells 33)).cell? ⟨w.heap.size, 9, none⟩ = some (.int .i64 o.p) := hO.cell 9
  have k10 : (w.alloc (.cells o.cells 33)).cell? ⟨w.heap.size, 10, none⟩ = some (.int .i64 o.r) := hO.cell 10
  have k11 : (w.alloc (.cells o.cells 33)).cell? ⟨w.heap.size, 11, none⟩ = some (.int .i64 o.ag) := hO.cell 11
  have k12 : (w.alloc (.cells o.cells 33)).cell? ⟨w.heap.size, 12, none⟩ = some (.int .i64 o.t) := hO.cell 12
  have k13 : (w.alloc (.cells o.cells 33)).cell? ⟨w.heap.size, 13, none⟩ = some (.bool o.h) := hO.cell 13
  generalize w.alloc (.cells o.cells 33) = v at *
  have c0 := HB.out.bo.c0
  have HO : Hid (Ob v w.heap.size o) := hO
  clear hO
  have bd : Below v.heap.size v v.drew := below_drewN (Below.refl _ _) 1
  have hc := H1.out v.drew (HB.out.below bd)
  go_upto_region 14 with fail
  refine quiet_call 8 mixed (by kernel_rfl) ?_
  simp only [List.take_succ_cons, List.take_zero, List.drop_succ_cons, List.drop_zero]
  repeat (go_big_quiet_step (fail))
  refine wpQuiet_nil ?_
  go_wp2_with fail
  refine hc.mono ?_
  rintro e w1 ⟨rfl, hA1, t1⟩
  have tv : Touch [a, h] v w1 := (Touch.of_below bd [a, h]).trans t1
  obtain ⟨q1, q2, q3⟩ := HB.out.got hA1 tv
  have hO1 : Ob w1 w.heap.size o := ⟨(tv.block _ HO.out.lt (by have := Hsz.out; simp; omega)).trans HO.out.is⟩
  have HA1 : Hid (Ar w1 a h c x' sw' ws' ∧ Touch [a, h] v w1) := ⟨hA1, tv⟩
  have HQ : Hid (Ra w1 r g c x sw ws) := q2
  have c1 : w1.cell? ⟨p, 1, none⟩ = some (.pointer (some ⟨r, 0, none⟩)) := Ow.c1 q1
  clear k0 k2 k7 k8 k9 k10 k11 k12 k13 c0 bd t1 H1 hc HO hA1 tv q1 q2 q3
  go_wp2_with fail
  refine thenQuiet_mk ?_
  repeat (go_big_quiet_step (fail))
  refine wpQuiet_nil ?_
  go_upto_region 15 with fail
  have k2 : w1.cell? ⟨w.heap.size, 2, none⟩ = some (.int .i64 o.sp) := hO1.cell 2
  have k7 : w1.cell? ⟨w.heap.size, 7, none⟩ = some (.int .u64 o.s) := hO1.cell 7
  have k8 : w1.cell? ⟨w.heap.size, 8, none⟩ = some (.int .i64 o.hk) := hO1.cell 8
  have k9 : w1.cell? ⟨w.heap.size, 9, none⟩ = some (.int .i64 o.p) := hO1.cell 9
  have k10 : w1.cell? ⟨w.heap.size, 10, none⟩ = some (.int .i64 o.r) := hO1.cell 10
  have k11 : w1.cell? ⟨w.heap.size, 11, none⟩ = some (.int .i64 o.ag) := hO1.cell 11
  have k12 : w1.cell? ⟨w.heap.size, 12, none⟩ = some (.int .i64 o.t) := hO1.cell 12
  have k13 : w1.cell? ⟨w.heap.size, 13, none⟩ = some (.bool o.h) := hO1.cell 13
  have bd : Below w1.heap.size w1 w1.drew := below_drewN (Below.refl _ _) 1
  have hc := H2.out w1.drew (HQ.out.below bd)
  refine quiet_call 8 mixed (by kernel_rfl) ?_
  simp only [List.take_succ_cons, List.take_zero, List.drop_succ_cons, List.drop_zero]
  repeat (go_big_quiet_step (fail))
  refine wpQuiet_nil ?_
  go_wp2_with fail
  refine hc.mono ?_
  rintro e w2 ⟨rfl, hR2, t2⟩
  obtain ⟨z1, z2⟩ := HB.out.want HA1.out.1 HA1.out.2 hR2 ((Touch.of_below bd (rft r g)).trans t2)
  have HZ : Hid (Bx w2 p a h r g c x' sw' ws' ∧ Touch (a :: h :: rft r g) w w2) := ⟨z1, (Touch.of_below l0.out _).trans z2⟩
  clear k2 k7 k8 k9 k10 k11 k12 k13 c1 bd t2 H2 hc hO1 HA1 HQ hR2 z1 z2 HB
  go_wp2_with fail
  refine thenQuiet_mk ?_
  repeat (go_big_quiet_step (fail))
  refine wpQuiet_nil ?_
  go_wp2
  go_ret
  exact ⟨by simp, HZ.out⟩

set_option maxHeartbeats 4000000 in
theorem write6_core (d : Bool) (x' : Tps) (sw' : Bool) (ws' : Nat → Int) (o : Opg) (ho : o.k = 6)
    (h1 : ∀ w1, Bx w1 p a h r g c x sw ws → Calls Tryz.prog 64 #[.pointer (some ⟨a, 0, none⟩), .int .i64 o.at_, hv o.s o.hk o.p o.r o.ag o.t o.h] w1 fun e w' => e = .returned (.bool d) ∧ Ar w' a h c x' sw' ws' ∧ Touch [a, h] w1 w')
    (h2 : ∀ w1, Ra w1 r g c x sw ws → Calls Tryz.prog 65 #[.pointer (some ⟨r, 0, none⟩), .int .i64 o.at_, hv o.s o.hk o.p o.r o.ag o.t o.h] w1 fun e w' => e = .returned (.bool d) ∧ Ra w' r g c x' sw' ws' ∧ Touch (rft r g) w1 w')
    (w : World) (hB : Bx w p a h r g c x sw ws) :
    Calls Tryz.prog 17 #[.pointer (some ⟨p, 0, none⟩), o.val] w fun e w' => e = .returned (.bool true) ∧ Bx w' p a h r g c x' sw' ws' ∧ Touch (a :: h :: rft r g) w w' := by
  have l0 : Hid (Below w.heap.size w (w.alloc (.cells o.cells 33))) := Below.alloc (Below.refl _ _) (Nat.le_refl _) _
  have hO := Ob.new w o
  have HB : Hid (Bx (w.alloc (.cells o.cells 33)) p a h r g c x sw ws) := hB.below l0.out
  have Hsz : Hid (a < w.heap.size ∧ h < w.heap.size ∧ ∀ q, q ∈ rft r g → q < w.heap.size) := ⟨hB.bo.ar.own.lt, hB.bo.ar.row.lt, hB.bo.ra.lt⟩
  have H1 : Hid (∀ w1, Bx w1 p a h r g c x sw ws → Calls Tryz.prog 64 #[.pointer (some ⟨a, 0, none⟩), .int .i64 o.at_, hv o.s o.hk o.p o.r o.ag o.t o.h] w1 fun e w' => e = .returned (.bool d) ∧ Ar w' a h c x' sw' ws' ∧ Touch [a, h] w1 w') := h1
  have H2 : Hid (∀ w1, Ra w1 r g c x sw ws → Calls Tryz.prog 65 #[.pointer (some ⟨r, 0, none⟩), .int .i64 o.at_, hv o.s o.hk o.p o.r o.ag o.t o.h] w1 fun e w' => e = .returned (.bool d) ∧ Ra w' r g c x' sw' ws' ∧ Touch (rft r g) w1 w') := h2
  clear hB h1 h2
  go_enter Tryz.func17, Tryz.ntmps17
  go_upto_region 1 with fail
  have k0 : (w.alloc (.cells o.cells 33)).cell? ⟨w.heap.size, 0, none⟩ = some (.int .i64 6) := by rw [hO.cell 0, ← ho]; rfl
  have k3 : (w.alloc (.cells o.cells 33)).cell? ⟨w.heap.size, 3, none⟩ = some (.int .i64 o.at_) := hO.cell 3
  have k7 : (w.alloc (.cells o.cells 33)).cell? ⟨w.heap.size, 7, none⟩ = some (.int .u64 o.s) := hO.cell 7
  have k8 : (w.alloc (.cells o.cells 33)).cell? ⟨w.heap.size, 8, none⟩ = some (.int .i64 o.hk) := hO.cell 8
  have k9 : (w.alloc (.cells o.cells 33)).cell? ⟨w.heap.size, 9, none⟩ = some (.int .i64 o.p) := hO.cell 9
  have k10 : (w.alloc (.cells o.cells 33)).cell? ⟨w.heap.size, 10, none⟩ = some (.int .i64 o.r) := hO.cell 10
  have k11 : (w.alloc (.cells o.cells 33)).cell? ⟨w.heap.size, 11, none⟩ = some (.int .i64 o.ag) := hO.cell 11
  have k12 : (w.alloc (.cells o.cells 33)).cell? ⟨w.heap.size, 12, none⟩ = some (.int .i64 o.t) := hO.cell 12
  have k13 : (w.alloc (.cells o.cells 33)).cell? ⟨w.heap.size, 13, none⟩ = some (.bool o.h) := hO.cell 13
  generalize w.alloc (.cells o.cells 33) = v at *
  have c0 := HB.out.bo.c0
  have HO : Hid (Ob v w.heap.size o) := hO
  clear hO
  have bd : Below v.heap.size v v.drew := below_drewN (Below.refl _ _) 1
  have hc := H1.out v.drew (HB.out.below bd)
  go_upto_region 21 with fail
  refine quiet_call 8 mixed (by kernel_rfl) ?_
  simp only [List.take_succ_cons, List.take_zero, List.drop_succ_cons, List.drop_zero]
  repeat (go_big_quiet_step (fail))
  refine wpQuiet_nil ?_
  go_wp2_with fail
  refine hc.mono ?_
  rintro e w1 ⟨rfl, hA1, t1⟩
  have tv : Touch [a, h] v w1 := (Touch.of_below bd [a, h]).trans t1
  obtain ⟨q1, q2, q3⟩ := HB.out.got hA1 tv
  have hO1 : Ob w1 w.heap.size o := ⟨(tv.block _ HO.out.lt (by have := Hsz.out; simp; omega)).trans HO.out.is⟩
  have HA1 : Hid (Ar w1 a h c x' sw' ws' ∧ Touch [a, h] v w1) := ⟨hA1, tv⟩
  have HQ : Hid (Ra w1 r g c x sw ws) := q2
  have c1 : w1.cell? ⟨p, 1, none⟩ = some (.pointer (some ⟨r, 0, none⟩)) := Ow.c1 q1
  clear k0 k3 k7 k8 k9 k10 k11 k12 k13 c0 bd t1 H1 hc HO hA1 tv q1 q2 q3
  go_wp2_with fail
  refine thenQuiet_mk ?_
  repeat (go_big_quiet_step (fail))
  refine wpQuiet_nil ?_
  go_upto_region 22 with fail
  have k3 : w1.cell? ⟨w.heap.size, 3, none⟩ = some (.int .i64 o.at_) := hO1.cell 3
  have k7 : w1.cell? ⟨w.heap.size, 7, none⟩ = some (.int .u64 o.s) := hO1.cell 7
  have k8 : w1.cell? ⟨w.heap.size, 8, none⟩ = some (.int .i64 o.hk) := hO1.cell 8
  have k9 : w1.cell? ⟨w.heap.size, 9, none⟩ = some (.int .i64 o.p) := hO1.cell 9
  have k10 : w1.cell? ⟨w.heap.size, 10, none⟩ = some (.int .i64 o.r) := hO1.cell 10
  have k11 : w1.cell? ⟨w.heap.size, 11, none⟩ = some (.int .i64 o.ag) := hO1.cell 11
  have k12 : w1.cell? ⟨w.heap.size, 12, none⟩ = some (.int .i64 o.t) := hO1.cell 12
  have k13 : w1.cell? ⟨w.heap.size, 13, none⟩ = some (.bool o.h) := hO1.cell 13
  have bd : Below w1.heap.size w1 w1.drew := below_drewN (Below.refl _ _) 1
  have hc := H2.out w1.drew (HQ.out.below bd)
  have HO1 : Hid (Ob w1 w.heap.size o) := hO1
  clear hO1
  go_region_held3 (fun w' => w'.cell? ⟨p, 1, none⟩ = some (.pointer (some ⟨r, 0, none⟩)) ∧ w'.cell? ⟨w.heap.size, 3, none⟩ = some (.int .i64 o.at_) ∧ w'.cell? ⟨w.heap.size, 7, none⟩ = some (.int .u64 o.s) ∧ w'.cell? ⟨w.heap.size, 8, none⟩ = some (.int .i64 o.hk) ∧ w'.cell? ⟨w.heap.size, 9, none⟩ = some (.int .i64 o.p) ∧ w'.cell? ⟨w.heap.size, 10, none⟩ = some (.int .i64 o.r) ∧ w'.cell? ⟨w.heap.size, 11, none⟩ = some (.int .i64 o.ag) ∧ w'.cell? ⟨w.heap.size, 12, none⟩ = some (.int .i64 o.t) ∧ w'.cell? ⟨w.heap.size, 13, none⟩ = some (.bool o.h)) (first | go_keep | exact (And.intro ‹_› (And.intro ‹_› (And.intro ‹_› (And.intro ‹_› (And.intro ‹_› (And.intro ‹_› (And.intro ‹_› (And.intro ‹_› ‹_›))))))))) (first | (go_at_call 65; refine hc.mono ?_; rintro e w2 ⟨rfl, hR2, t2⟩; have t2' : Touch (rft r g) w1 w2 := (Touch.of_below bd (rft r g)).trans t2; have zz := HB.out.want HA1.out.1 HA1.out.2 hR2 t2'; have mm : w2.cell? ⟨p, 1, none⟩ = some (.pointer (some ⟨r, 0, none⟩)) ∧ Ob w2 w.heap.size o := ⟨zz.1.bo.c1, ⟨(t2'.block _ HO1.out.lt (fun hm => by have := Hsz.out.2.2 _ hm; omega)).trans HO1.out.is⟩⟩; have m1 : w2.cell? ⟨p, 1, none⟩ = some (.pointer (some ⟨r, 0, none⟩)) := mm.1; have m3 : w2.cell? ⟨w.heap.size, 3, none⟩ = some (.int .i64 o.at_) := mm.2.cell 3; have m7 : w2.cell? ⟨w.heap.size, 7, none⟩ = some (.int .u64 o.s) := mm.2.cell 7; have m8 : w2.cell? ⟨w.heap.size, 8, none⟩ = some (.int .i64 o.hk) := mm.2.cell 8; have m9 : w2.cell? ⟨w.heap.size, 9, none⟩ = some (.int .i64 o.p) := mm.2.cell 9; have m10 : w2.cell? ⟨w.heap.size, 10, none⟩ = some (.int .i64 o.r) := mm.2.cell 10; have m11 : w2.cell? ⟨w.heap.size, 11, none⟩ = some (.int .i64 o.ag) := mm.2.cell 11; have m12 : w2.cell? ⟨w.heap.size, 12, none⟩ = some (.int .i64 o.t) := mm.2.cell 12; have m13 : w2.cell? ⟨w.heap.size, 13, none⟩ = some (.bool o.h) := mm.2.cell 13))
  have HZ : Hid (Bx w2 p a h r g c x' sw' ws' ∧ Touch (a :: h :: rft r g) w w2) := ⟨zz.1, (Touch.of_below l0.out _).trans zz.2⟩
  clear k3 k7 k8 k9 k10 k11 k12 k13 c1 bd t2 H2 hc HO1 HA1 HQ hR2 HB mm zz t2' m1 m3 m7 m8 m9 m10 m11 m12 m13
  go_wp2
  go_ret
  exact ⟨by simp, HZ.out⟩

theorem write4_any (o : Opg) (ho : o.k = 4) (hs : Wd o.s) (w : World) (hB : Bx w p a h r g c x sw ws) :
    Calls Tryz.prog 17 #[.pointer (some ⟨p, 0, none⟩), o.val] w (Wrote p a h r g c w) := by
  have hsub := hB.bo.ar.sub_in o.sp
  by_cases hf : flt o.hk o.p o.r o.ag o.t = 0
  · by_cases hn : 2 + o.p + o.r ≤ bhd c o.sp - x.top o.sp
    · have hp0 := (May.of hf).p0
      have hr0 := (May.of hf).r0
      obtain ⟨P, hP⟩ : ∃ P : Nat, x.top o.sp = P := ⟨(x.top o.sp).toNat, by omega⟩
      obtain ⟨n, hN⟩ : ∃ n : Nat, (n : Int) = 2 + o.p + o.r := ⟨(2 + o.p + o.r).toNat, by omega⟩
      have hs4 : 1 ≤ o.sp ∧ o.sp ≤ 4 := by
        refine Decidable.byContradiction fun hs => ?_
        have e1 : bhd c o.sp = 0 := by unfold bhd; rw [if_neg (by omega), if_neg (by omega), if_neg (by omega), if_neg (by omega)]
        omega
      obtain ⟨S, hS⟩ : ∃ S : Nat, o.sp = S := ⟨o.sp.toNat, by omega⟩
      refine (write4_core p a h r g c x sw ws (P : Int) true (x.put o.sp (P + n)) sw (putw ws P n (wrd o.hk o.p o.r o.ag o.t o.h) o.s) o ho (fun w1 H1 => ?_) (fun w1 H1 => ?_) w hB).mono (fun e w' hh => ⟨hh.1, _, _, _, hh.2.1, hh.2.2⟩)
      · exact put_yes a h c x sw ws o.sp o.s o.hk o.p o.r o.ag o.t o.h hs hf P n hP hN (by omega) w1 H1.bo.ar H1.bo.la
      · rw [hS]; exact rput_yes r g c x sw ws S (by omega) (by omega) o.s o.hk o.p o.r o.ag o.t o.h hf P n (by rw [← hS]; exact hP) hN (by rw [← hS]; omega) w1 H1
    · refine (write4_core p a h r g c x sw ws 0 false x sw ws o ho (fun w1 H1 => ?_) (fun w1 H1 => ?_) w hB).mono (fun e w' hh => ⟨hh.1, _, _, _, hh.2.1, hh.2.2⟩)
      · exact (put_full a h c x sw ws o.sp o.s o.hk o.p o.r o.ag o.t o.h hf hn w1 H1.bo.ar H1.bo.la).mono (fun e w' hh => ⟨hh.1, ar_same H1.bo.ar hh.2⟩)
      · exact (rput_full r g c x sw ws o.sp o.s o.hk o.p o.r o.ag o.t o.h hf hn w1 H1).mono (fun e w' hh => ⟨hh.1, H1.below hh.2, Touch.of_below hh.2 _⟩)
  · refine (write4_core p a h r g c x sw ws 0 false x sw ws o ho (fun w1 H1 => ?_) (fun w1 H1 => ?_) w hB).mono (fun e w' hh => ⟨hh.1, _, _, _, hh.2.1, hh.2.2⟩)
    · exact (put_bad a h o.sp o.s o.hk o.p o.r o.ag o.t o.h hf w1 H1.bo.la).mono (fun e w' hh => ⟨hh.1, ar_same H1.bo.ar hh.2⟩)
    · exact (rput_bad r o.sp o.s o.hk o.p o.r o.ag o.t o.h hf w1).mono (fun e w' hh => ⟨hh.1, H1.below hh.2, Touch.of_below hh.2 _⟩)
end

end Go.Proofs.YtbdkcelggffneaaGreatDoor
