/-
  The two arenas side by side: single steps, the walk of an empty space.
-/
import Derived.Test.YtbdkcelggffneaaGreatDoorB5
set_option linter.unusedVariables false
set_option maxRecDepth 20000
namespace Go.Proofs.YtbdkcelggffneaaGreatDoor
open Go.RowKit Go.Shelf

section
variable (p a h r : Nat) (g : Nat → Nat) (c : Cfg) (x : Tps) (sw : Bool) (ws : Nat → Int)

set_option maxHeartbeats 2000000 in
theorem lwalk0_any (hx : ∀ s, x.top s = fst c s) (s : Int) (w : World) (hB : Bo w p a h r g c x sw ws) :
    Calls Tryz.prog 36 #[.pointer (some ⟨p, 0, none⟩), .int .i64 s, .int .i64 0] w fun e w' => e = .returned (.bool true) ∧ Below w.heap.size w w' := by
  have HB : Hid (Bo w p a h r g c x sw ws) := hB
  have c1 := hB.c1
  have hr := rwalk0_any r g c x sw ws s (hx s) w hB.ra
  have HO : Hid (∀ w1, Below w.heap.size w w1 → Calls Tryz.prog 15 #[.pointer (some ⟨a, 0, none⟩), .int .i64 s, .int .i64 0, .int .i64 1] w1 fun rr w' => ∃ tb a' cap', rr = .returned (.tuple #[.pointer (some ⟨tb, 0, none⟩), .bool true]) ∧ w'.cell? ⟨tb, 0, none⟩ = some (.slice a' 0 cap') ∧ Below w1.heap.size w1 w') := fun w1 l => by
    have hb1 := HB.out.below l
    refine (objects3_any a h c x sw ws s [] (fst c s) (fst c s) (Past.done (.inl (by rw [hx s]; exact Int.le_refl _))) (Walk.done (by rw [hx s]; exact Int.le_refl _)) 1 (by decide) (by decide) w1 hb1.ar hb1.la).mono ?_
    rintro rr w' ⟨tb, f, va, vh, rfl, k, bl⟩
    obtain ⟨a', cap', rfl⟩ := k.va
    exact ⟨tb, a', cap', rfl, by rw [k.row.cell (i := 0) (by decide)]; exact congrArg some k.f0, bl⟩
  clear hB hx
  go_enter Tryz.func36, Tryz.ntmps36
  go_wp2_with fail
  refine hr.mono ?_
  rintro e w1 ⟨rfl, l1⟩
  have c0 := (HB.out.below l1).c0
  clear hr c1
  go_wp2_with fail
  refine (HO.out w1 l1).mono ?_
  rintro e w2 ⟨tb, a', cap', rfl, k, l2⟩
  have l3 : Hid (Below w.heap.size w w2) := l1.trans (l2.mono l1.size)
  clear HO l1 l2 c0
  go_wp2
  go_loopw [11] (fun v wr => v = .int .i64 0 ∧ Hid (Below w.heap.size w wr)) (fun _ _ => 0)
  case atStart => exact ⟨rfl, l3.out⟩
  case round =>
    obtain ⟨rfl, bl⟩ := hrel
    clear l3 k
    go_wp2
    go_ret
    exact ⟨rfl, bl.out⟩

set_option maxHeartbeats 2000000 in
theorem step12_any (w : World) (hB : Bo w p a h r g c x sw ws) :
    Calls Tryz.prog 7 #[.pointer (some ⟨p, 0, none⟩), opv 12] w fun e w' => e = .returned (.bool true) ∧ Below w.heap.size w w' := by
  have l0 : Hid (Below w.heap.size w (w.alloc (.cells (opc 12) 33))) := Below.alloc (Below.refl _ _) (Nat.le_refl _) _
  have kk := opc_cell w 12
  have hB0 := hB.below l0.out
  have c0 := hB0.c0
  have c1 := hB0.c1
  have h1 := from_any a h c x sw ws _ hB0.ar
  have h2 := to_any a h c x sw ws _ hB0.ar
  have h3 := rfrom_any r g c x sw ws _ hB0.ra
  have h4 := rto_any r g c x sw ws _ hB0.ra
  clear hB hB0
  generalize (if sw = true then (3 : Int) else 2) = F at *
  generalize (if sw = true then (2 : Int) else 3) = T at *
  go_enter Tryz.func7, Tryz.ntmps7
  go_upto_region 1 with fail
  generalize w.alloc (.cells (opc 12) 33) = v at *
  go_wp2_with fail
  refine h1.mono ?_
  rintro e w1 ⟨rfl, rfl⟩
  clear h1
  go_wp2_with fail
  refine h2.mono ?_
  rintro e w1 ⟨rfl, rfl⟩
  clear h2
  go_wp2_with fail
  refine h3.mono ?_
  rintro e w1 ⟨rfl, rfl⟩
  clear h3
  go_wp2_with fail
  refine h4.mono ?_
  rintro e w1 ⟨rfl, rfl⟩
  clear h4 kk c0 c1
  go_wp2
  go_ret
  exact ⟨rfl, l0.out⟩

set_option maxHeartbeats 2000000 in
theorem step18_any (hx : ∀ s, x.top s = fst c s) (w : World) (hB : Bo w p a h r g c x sw ws) :
    Calls Tryz.prog 7 #[.pointer (some ⟨p, 0, none⟩), opv 18] w fun e w' => e = .returned (.bool true) ∧ Below w.heap.size w w' := by
  have l0 : Hid (Below w.heap.size w (w.alloc (.cells (opc 18) 33))) := Below.alloc (Below.refl _ _) (Nat.le_refl _) _
  have kk := opc_cell w 18
  have hB0 := hB.below l0.out
  have HB : Hid (Bo (w.alloc (.cells (opc 18) 33)) p a h r g c x sw ws) := hB0
  have c0 := hB0.c0
  have hc : ∀ s, 1 ≤ s ∧ s ≤ 4 → Comes c x ws s := fun s _ => ⟨[], x.top s, by rw [hx s]; exact Past.done (.inl (Int.le_refl _)), Walk.done (Int.le_refl _)⟩
  have h1 := check_ok a h c x sw ws hc _ hB0.ar hB0.la
  have H2 : Hid (∀ w1, Below (w.alloc (.cells (opc 18) 33)).heap.size (w.alloc (.cells (opc 18) 33)) w1 → Calls Tryz.prog 38 #[.pointer (some ⟨r, 0, none⟩)] w1 fun e w' => e = .returned (.tuple #[.int .i64 0, .int .i64 0]) ∧ Below w1.heap.size w1 w') := fun w1 l => rcheck0_any r g c x sw ws hx w1 (HB.out.below l).ra
  clear hB hB0 hx hc
  go_enter Tryz.func7, Tryz.ntmps7
  go_upto_region 1 with fail
  generalize w.alloc (.cells (opc 18) 33) = v at *
  go_wp2_with fail
  refine h1.mono ?_
  rintro e w1 ⟨rfl, l1⟩
  have c1 := (HB.out.below l1).c1
  clear h1 kk c0
  go_wp2_with fail
  refine (H2.out w1 l1).mono ?_
  rintro e w2 ⟨rfl, l2⟩
  have l3 : Hid (Below v.heap.size v w2) := l1.trans (l2.mono l1.size)
  clear l1 l2 c1 H2
  go_wp2
  go_ret
  exact ⟨rfl, l0.out.trans (l3.out.mono l0.out.size)⟩

theorem Ra.cfd {w : World} {b : Nat} {g : Nat → Nat} {c : Cfg} {x : Tps} {sw : Bool} {ws : Nat → Int} (h : Ra w b g c x sw ws) (j : Nat) (hj : j < 14) : w.cell? ⟨b, j, none⟩ = (ccells c)[j]? := by
  rw [h.cell j (by omega)]
  match j, hj with
  | 0, _ | 1, _ | 2, _ | 3, _ | 4, _ | 5, _ | 6, _ | 7, _ | 8, _ | 9, _ | 10, _ | 11, _ | 12, _ | 13, _ => rfl

set_option maxHeartbeats 4000000 in
theorem step19_any (w : World) (hB : Bo w p a h r g c x sw ws) :
    Calls Tryz.prog 7 #[.pointer (some ⟨p, 0, none⟩), opv 19] w fun e w' => e = .returned (.bool true) ∧ Below w.heap.size w w' := by
  have l0 : Hid (Below w.heap.size w (w.alloc (.cells (opc 19) 33))) := Below.alloc (Below.refl _ _) (Nat.le_refl _) _
  have kk := opc_cell w 19
  have hB0 := hB.below l0.out
  have HB : Hid (Bo (w.alloc (.cells (opc 19) 33)) p a h r g c x sw ws) := hB0
  have c0 := hB0.c0
  have h1 := config_any a h c x sw ws _ hB0.ar
  clear hB hB0
  go_enter Tryz.func7, Tryz.ntmps7
  go_upto_region 1 with fail
  generalize w.alloc (.cells (opc 19) 33) = v at *
  go_wp2_with fail
  refine h1.mono ?_
  rintro e w1 ⟨rfl, l1⟩
  clear h1 kk c0
  have L1 : Hid (Below v.heap.size v w1) := l1
  clear l1
  go_upto_region 36 with fail
  have f1 := Cfd.new w1 c
  have bl : Below w1.heap.size w1 (w1.alloc (.cells (ccells c) 23)) := Below.alloc (Below.refl _ _) (Nat.le_refl _) _
  have hB2 := (HB.out.below L1.out).below bl
  have L2 : Hid (Below v.heap.size v (w1.alloc (.cells (ccells c) 23))) := L1.out.trans (bl.mono L1.out.size)
  clear bl
  generalize hv2 : w1.alloc (.cells (ccells c) 23) = v2 at *
  clear hv2
  have k0 : v2.cell? ⟨w1.heap.size, 0, none⟩ = some (.int .i64 c.eden) := f1.cell 0
  have m0 : v2.cell? ⟨r, 0, none⟩ = some (.int .i64 c.eden) := hB2.ra.cfd 0 (by decide)
  have k1 : v2.cell? ⟨w1.heap.size, 1, none⟩ = some (.int .i64 c.surv) := f1.cell 1
  have m1 : v2.cell? ⟨r, 1, none⟩ = some (.int .i64 c.surv) := hB2.ra.cfd 1 (by decide)
  have k2 : v2.cell? ⟨w1.heap.size, 2, none⟩ = some (.int .i64 c.ten) := f1.cell 2
  have m2 : v2.cell? ⟨r, 2, none⟩ = some (.int .i64 c.ten) := hB2.ra.cfd 2 (by decide)
  have k3 : v2.cell? ⟨w1.heap.size, 3, none⟩ = some (.int .i64 c.large) := f1.cell 3
  have m3 : v2.cell? ⟨r, 3, none⟩ = some (.int .i64 c.large) := hB2.ra.cfd 3 (by decide)
  have k4 : v2.cell? ⟨w1.heap.size, 4, none⟩ = some (.int .i64 c.floor) := f1.cell 4
  have m4 : v2.cell? ⟨r, 4, none⟩ = some (.int .i64 c.floor) := hB2.ra.cfd 4 (by decide)
  have k5 : v2.cell? ⟨w1.heap.size, 5, none⟩ = some (.int .i64 c.num) := f1.cell 5
  have m5 : v2.cell? ⟨r, 5, none⟩ = some (.int .i64 c.num) := hB2.ra.cfd 5 (by decide)
  have k6 : v2.cell? ⟨w1.heap.size, 6, none⟩ = some (.int .i64 c.den) := f1.cell 6
  have m6 : v2.cell? ⟨r, 6, none⟩ = some (.int .i64 c.den) := hB2.ra.cfd 6 (by decide)
  have k7 : v2.cell? ⟨w1.heap.size, 7, none⟩ = some (.int .i64 c.target) := f1.cell 7
  have m7 : v2.cell? ⟨r, 7, none⟩ = some (.int .i64 c.target) := hB2.ra.cfd 7 (by decide)
  have k8 : v2.cell? ⟨w1.heap.size, 8, none⟩ = some (.int .i64 c.maxAge) := f1.cell 8
  have m8 : v2.cell? ⟨r, 8, none⟩ = some (.int .i64 c.maxAge) := hB2.ra.cfd 8 (by decide)
  have k9 : v2.cell? ⟨w1.heap.size, 9, none⟩ = some (.int .i64 c.threads) := f1.cell 9
  have m9 : v2.cell? ⟨r, 9, none⟩ = some (.int .i64 c.threads) := hB2.ra.cfd 9 (by decide)
  have k10 : v2.cell? ⟨w1.heap.size, 10, none⟩ = some (.int .i64 c.slots) := f1.cell 10
  have m10 : v2.cell? ⟨r, 10, none⟩ = some (.int .i64 c.slots) := hB2.ra.cfd 10 (by decide)
  have k11 : v2.cell? ⟨w1.heap.size, 11, none⟩ = some (.int .i64 c.handles) := f1.cell 11
  have m11 : v2.cell? ⟨r, 11, none⟩ = some (.int .i64 c.handles) := hB2.ra.cfd 11 (by decide)
  have k12 : v2.cell? ⟨w1.heap.size, 12, none⟩ = some (.int .i64 c.buffer) := f1.cell 12
  have m12 : v2.cell? ⟨r, 12, none⟩ = some (.int .i64 c.buffer) := hB2.ra.cfd 12 (by decide)
  have k13 : v2.cell? ⟨w1.heap.size, 13, none⟩ = some (.int .i64 c.workers) := f1.cell 13
  have m13 : v2.cell? ⟨r, 13, none⟩ = some (.int .i64 c.workers) := hB2.ra.cfd 13 (by decide)
  have c1 := hB2.c1
  clear f1 hB2
  refine quiet_tail 8 mixed (by kernel_rfl) ?_
  simp only [List.take_succ_cons, List.take_zero, List.drop_succ_cons, List.drop_zero]
  repeat (go_big_quiet_step (fail))
  refine wpQuiet_nil ?_
  clear k0 m0 k1 m1 k2 m2 k3 m3 k4 m4 k5 m5 k6 m6 k7 m7 k8 m8 k9 m9 k10 m10 k11 m11 k12 m12 k13 m13 c1
  go_wp2_with fail
  refine (sameConfig_any c _).mono ?_
  rintro e w3 ⟨rfl, l3⟩
  have l4 : Hid (Below v2.heap.size v2 w3) := (below_drewN (Below.refl _ _) 1).trans l3
  clear l3
  go_wp2
  go_ret
  exact ⟨rfl, l0.out.trans ((L2.out.trans (l4.out.mono L2.out.size)).mono l0.out.size)⟩
end

end Go.Proofs.YtbdkcelggffneaaGreatDoor
