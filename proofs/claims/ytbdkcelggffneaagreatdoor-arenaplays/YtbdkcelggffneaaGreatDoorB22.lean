/-
  The two arenas side by side: From and To, the configuration, any step's numbers.
-/
import Derived.Test.YtbdkcelggffneaaGreatDoorPBb
set_option linter.unusedVariables false
set_option maxRecDepth 20000
namespace Go.Proofs.YtbdkcelggffneaaGreatDoor
open Go.RowKit Go.Shelf

section
variable (p a h r : Nat) (g : Nat → Nat) (c : Cfg) (x : Tps) (sw : Bool) (ws : Nat → Int)

set_option maxHeartbeats 2000000 in
theorem step12g_any (o : Opg) (ho : o.k = 12) (w : World) (hB : Bo w p a h r g c x sw ws) :
    Calls Tryz.prog 7 #[.pointer (some ⟨p, 0, none⟩), o.val] w fun e w' => e = .returned (.bool true) ∧ Below w.heap.size w w' := by
  have l0 : Hid (Below w.heap.size w (w.alloc (.cells o.cells 33))) := Below.alloc (Below.refl _ _) (Nat.le_refl _) _
  have kk : (w.alloc (.cells o.cells 33)).cell? ⟨w.heap.size, 0, none⟩ = some (.int .i64 12) := by rw [(Ob.new w o).cell 0, ← ho]; rfl
  have hB0 := hB.below l0.out
  have c0 := hB0.c0
  have c1 := hB0.c1
  have h1 := from_any a h c x sw ws _ hB0.ar
  have h2 := to_any a h c x sw ws _ hB0.ar
  have h3 := rfrom_any r g c x sw ws _ hB0.ra
  have h4 := rto_any r g c x sw ws _ hB0.ra
  clear hB hB0
  generalize (if sw = true then (3 : Int) else 2) = F at *
  generalize (if sw = true then (2 : Int) else 3) = T at *
  go_enter Tryz.func7, Tryz.ntmps7
  go_upto_region 1 with fail
  generalize w.alloc (.cells o.cells 33) = v at *
  go_wp2_with fail
  refine h1.mono ?_
  rintro e w1 ⟨rfl, rfl⟩
  clear h1
  go_wp2_with fail
  refine h2.mono ?_
  rintro e w1 ⟨rfl, rfl⟩
  clear h2
  go_wp2_with fail
  refine h3.mono ?_
  rintro e w1 ⟨rfl, rfl⟩
  clear h3
  go_wp2_with fail
  refine h4.mono ?_
  rintro e w1 ⟨rfl, rfl⟩
  clear h4 kk c0 c1
  go_wp2
  go_ret
  exact ⟨rfl, l0.out⟩

set_option maxHeartbeats 4000000 in
theorem step19g_any (o : Opg) (ho : o.k = 19) (w : World) (hB : Bo w p a h r g c x sw ws) :
    Calls Tryz.prog 7 #[.pointer (some ⟨p, 0, none⟩), o.val] w fun e w' => e = .returned (.bool true) ∧ Below w.heap.size w w' := by
  have l0 : Hid (Below w.heap.size w (w.alloc (.cells o.cells 33))) := Below.alloc (Below.refl _ _) (Nat.le_refl _) _
  have kk : (w.alloc (.cells o.cells 33)).cell? ⟨w.heap.size, 0, none⟩ = some (.int .i64 19) := by rw [(Ob.new w o).cell 0, ← ho]; rfl
  have hB0 := hB.below l0.out
  have HB : Hid (Bo (w.alloc (.cells o.cells 33)) p a h r g c x sw ws) := hB0
  have c0 := hB0.c0
  have h1 := config_any a h c x sw ws _ hB0.ar
  clear hB hB0
  go_enter Tryz.func7, Tryz.ntmps7
  go_upto_region 1 with fail
  generalize w.alloc (.cells o.cells 33) = v at *
  go_wp2_with fail
  refine h1.mono ?_
  rintro e w1 ⟨rfl, l1⟩
  clear h1 kk c0
  have L1 : Hid (Below v.heap.size v w1) := l1
  clear l1
  go_upto_region 36 with fail
  have f1 := Cfd.new w1 c
  have bl : Below w1.heap.size w1 (w1.alloc (.cells (ccells c) 23)) := Below.alloc (Below.refl _ _) (Nat.le_refl _) _
  have hB2 := (HB.out.below L1.out).below bl
  have L2 : Hid (Below v.heap.size v (w1.alloc (.cells (ccells c) 23))) := L1.out.trans (bl.mono L1.out.size)
  clear bl
  generalize hv2 : w1.alloc (.cells (ccells c) 23) = v2 at *
  clear hv2
  have k0 : v2.cell? ⟨w1.heap.size, 0, none⟩ = some (.int .i64 c.eden) := f1.cell 0
  have m0 : v2.cell? ⟨r, 0, none⟩ = some (.int .i64 c.eden) := hB2.ra.cfd 0 (by decide)
  have k1 : v2.cell? ⟨w1.heap.size, 1, none⟩ = some (.int .i64 c.surv) := f1.cell 1
  have m1 : v2.cell? ⟨r, 1, none⟩ = some (.int .i64 c.surv) := hB2.ra.cfd 1 (by decide)
  have k2 : v2.cell? ⟨w1.heap.size, 2, none⟩ = some (.int .i64 c.ten) := f1.cell 2
  have m2 : v2.cell? ⟨r, 2, none⟩ = some (.int .i64 c.ten) := hB2.ra.cfd 2 (by decide)
  have k3 : v2.cell? ⟨w1.heap.size, 3, none⟩ = some (.int .i64 c.large) := f1.cell 3
  have m3 : v2.cell? ⟨r, 3, none⟩ = some (.int .i64 c.large) := hB2.ra.cfd 3 (by decide)
  have k4 : v2.cell? ⟨w1.heap.size, 4, none⟩ = some (.int .i64 c.floor) := f1.cell 4
  have m4 : v2.cell? ⟨r, 4, none⟩ = some (.int .i64 c.floor) := hB2.ra.cfd 4 (by decide)
  have k5 : v2.cell? ⟨w1.heap.size, 5, none⟩ = some (.int .i64 c.num) := f1.cell 5
  have m5 : v2.cell? ⟨r, 5, none⟩ = some (.int .i64 c.num) := hB2.ra.cfd 5 (by decide)
  have k6 : v2.cell? ⟨w1.heap.size, 6, none⟩ = some (.int .i64 c.den) := f1.cell 6
  have m6 : v2.cell? ⟨r, 6, none⟩ = some (.int .i64 c.den) := hB2.ra.cfd 6 (by decide)
  have k7 : v2.cell? ⟨w1.heap.size, 7, none⟩ = some (.int .i64 c.target) := f1.cell 7
  have m7 : v2.cell? ⟨r, 7, none⟩ = some (.int .i64 c.target) := hB2.ra.cfd 7 (by decide)
  have k8 : v2.cell? ⟨w1.heap.size, 8, none⟩ = some (.int .i64 c.maxAge) := f1.cell 8
  have m8 : v2.cell? ⟨r, 8, none⟩ = some (.int .i64 c.maxAge) := hB2.ra.cfd 8 (by decide)
  have k9 : v2.cell? ⟨w1.heap.size, 9, none⟩ = some (.int .i64 c.threads) := f1.cell 9
  have m9 : v2.cell? ⟨r, 9, none⟩ = some (.int .i64 c.threads) := hB2.ra.cfd 9 (by decide)
  have k10 : v2.cell? ⟨w1.heap.size, 10, none⟩ = some (.int .i64 c.slots) := f1.cell 10
  have m10 : v2.cell? ⟨r, 10, none⟩ = some (.int .i64 c.slots) := hB2.ra.cfd 10 (by decide)
  have k11 : v2.cell? ⟨w1.heap.size, 11, none⟩ = some (.int .i64 c.handles) := f1.cell 11
  have m11 : v2.cell? ⟨r, 11, none⟩ = some (.int .i64 c.handles) := hB2.ra.cfd 11 (by decide)
  have k12 : v2.cell? ⟨w1.heap.size, 12, none⟩ = some (.int .i64 c.buffer) := f1.cell 12
  have m12 : v2.cell? ⟨r, 12, none⟩ = some (.int .i64 c.buffer) := hB2.ra.cfd 12 (by decide)
  have k13 : v2.cell? ⟨w1.heap.size, 13, none⟩ = some (.int .i64 c.workers) := f1.cell 13
  have m13 : v2.cell? ⟨r, 13, none⟩ = some (.int .i64 c.workers) := hB2.ra.cfd 13 (by decide)
  have c1 := hB2.c1
  clear f1 hB2
  refine quiet_tail 8 mixed (by kernel_rfl) ?_
  simp only [List.take_succ_cons, List.take_zero, List.drop_succ_cons, List.drop_zero]
  repeat (go_big_quiet_step (fail))
  refine wpQuiet_nil ?_
  clear k0 m0 k1 m1 k2 m2 k3 m3 k4 m4 k5 m5 k6 m6 k7 m7 k8 m8 k9 m9 k10 m10 k11 m11 k12 m12 k13 m13 c1
  go_wp2_with fail
  refine (sameConfig_any c _).mono ?_
  rintro e w3 ⟨rfl, l3⟩
  have l4 : Hid (Below v2.heap.size v2 w3) := (below_drewN (Below.refl _ _) 1).trans l3
  clear l3
  go_wp2
  go_ret
  exact ⟨rfl, l0.out.trans ((L2.out.trans (l4.out.mono L2.out.size)).mono l0.out.size)⟩
end

end Go.Proofs.YtbdkcelggffneaaGreatDoor
