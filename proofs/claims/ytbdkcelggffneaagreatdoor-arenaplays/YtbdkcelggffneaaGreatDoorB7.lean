/-
  ArenaConfigs: the two arenas of one configuration.
-/
import Derived.Test.YtbdkcelggffneaaGreatDoorB6
set_option linter.unusedVariables false
set_option maxRecDepth 20000
namespace Go.Proofs.YtbdkcelggffneaaGreatDoor
open Go.RowKit Go.Shelf


theorem tops0_top (c : Cfg) (s : Int) : (tops0 c).top s = fst c s := by
  unfold tops0 Tps.top fst
  rfl

set_option maxHeartbeats 2000000 in
theorem begin_yes (c : Cfg) (ho : c.Ok) (w : World) (hL : Laid w) :
    Calls Tryz.prog 5 #[cv c] w fun e w' => ∃ p a h r g, e = .returned (.tuple #[.pointer (some ⟨p, 0, none⟩), .bool true]) ∧ Bo w' p a h r g c (tops0 c) false (fun _ => 0) ∧ Below w.heap.size w w' ∧ (w.heap.size ≤ a ∧ w.heap.size ≤ h ∧ a < r ∧ h < r ∧ r < p ∧ ∀ s, 1 ≤ s → s ≤ 4 → a < g s ∧ h < g s ∧ g s < p) ∧ w'.heap[p]? = some (.cells (btc a r) 39 (0, 0)) := by
  have l0 : Hid (Below w.heap.size w (w.alloc (.cells (ccells c) 23))) := Below.alloc (Below.refl _ _) (Nat.le_refl _) _
  have f0 := Cfd.new w c
  have h1 := new_yes c ho (w.alloc (.cells (ccells c) 23))
  have HL : Hid (Laid w) := hL
  have HO : Hid c.Ok := ho
  clear hL ho
  go_enter Tryz.func5, Tryz.ntmps5
  go_upto_region 1 with fail
  generalize w.alloc (.cells (ccells c) 23) = v at *
  have k0 : v.cell? ⟨w.heap.size, 0, none⟩ = some (.int .i64 c.eden) := f0.cell 0
  have k1 : v.cell? ⟨w.heap.size, 1, none⟩ = some (.int .i64 c.surv) := f0.cell 1
  have k2 : v.cell? ⟨w.heap.size, 2, none⟩ = some (.int .i64 c.ten) := f0.cell 2
  have k3 : v.cell? ⟨w.heap.size, 3, none⟩ = some (.int .i64 c.large) := f0.cell 3
  have k4 : v.cell? ⟨w.heap.size, 4, none⟩ = some (.int .i64 c.floor) := f0.cell 4
  have k5 : v.cell? ⟨w.heap.size, 5, none⟩ = some (.int .i64 c.num) := f0.cell 5
  have k6 : v.cell? ⟨w.heap.size, 6, none⟩ = some (.int .i64 c.den) := f0.cell 6
  have k7 : v.cell? ⟨w.heap.size, 7, none⟩ = some (.int .i64 c.target) := f0.cell 7
  have k8 : v.cell? ⟨w.heap.size, 8, none⟩ = some (.int .i64 c.maxAge) := f0.cell 8
  have k9 : v.cell? ⟨w.heap.size, 9, none⟩ = some (.int .i64 c.threads) := f0.cell 9
  have k10 : v.cell? ⟨w.heap.size, 10, none⟩ = some (.int .i64 c.slots) := f0.cell 10
  have k11 : v.cell? ⟨w.heap.size, 11, none⟩ = some (.int .i64 c.handles) := f0.cell 11
  have k12 : v.cell? ⟨w.heap.size, 12, none⟩ = some (.int .i64 c.buffer) := f0.cell 12
  have k13 : v.cell? ⟨w.heap.size, 13, none⟩ = some (.int .i64 c.workers) := f0.cell 13
  go_wp2_with fail
  refine h1.mono ?_
  rintro e w1 ⟨a, h, rfl, A1, l1, ha1, hh1⟩
  have hvz := l0.out.size
  have HF1 : Hid (w.heap.size ≤ a ∧ w.heap.size ≤ h ∧ a < w1.heap.size ∧ h < w1.heap.size) := ⟨by omega, by omega, A1.own.lt, A1.row.lt⟩
  clear ha1 hh1 hvz
  clear k0 k1 k2 k3 k4 k5 k6 k7 k8 k9 k10 k11 k12 k13
  clear h1
  have f1 := f0.below l1
  have L1 : Hid (Below w.heap.size w w1) := l0.out.trans (l1.mono l0.out.size)
  have HA : Hid (Ar w1 a h c (tops0 c) false (fun _ => 0)) := A1
  clear l1 l0 A1 f0
  have k0 : w1.cell? ⟨w.heap.size, 0, none⟩ = some (.int .i64 c.eden) := f1.cell 0
  have k1 : w1.cell? ⟨w.heap.size, 1, none⟩ = some (.int .i64 c.surv) := f1.cell 1
  have k2 : w1.cell? ⟨w.heap.size, 2, none⟩ = some (.int .i64 c.ten) := f1.cell 2
  have k3 : w1.cell? ⟨w.heap.size, 3, none⟩ = some (.int .i64 c.large) := f1.cell 3
  have k4 : w1.cell? ⟨w.heap.size, 4, none⟩ = some (.int .i64 c.floor) := f1.cell 4
  have k5 : w1.cell? ⟨w.heap.size, 5, none⟩ = some (.int .i64 c.num) := f1.cell 5
  have k6 : w1.cell? ⟨w.heap.size, 6, none⟩ = some (.int .i64 c.den) := f1.cell 6
  have k7 : w1.cell? ⟨w.heap.size, 7, none⟩ = some (.int .i64 c.target) := f1.cell 7
  have k8 : w1.cell? ⟨w.heap.size, 8, none⟩ = some (.int .i64 c.maxAge) := f1.cell 8
  have k9 : w1.cell? ⟨w.heap.size, 9, none⟩ = some (.int .i64 c.threads) := f1.cell 9
  have k10 : w1.cell? ⟨w.heap.size, 10, none⟩ = some (.int .i64 c.slots) := f1.cell 10
  have k11 : w1.cell? ⟨w.heap.size, 11, none⟩ = some (.int .i64 c.handles) := f1.cell 11
  have k12 : w1.cell? ⟨w.heap.size, 12, none⟩ = some (.int .i64 c.buffer) := f1.cell 12
  have k13 : w1.cell? ⟨w.heap.size, 13, none⟩ = some (.int .i64 c.workers) := f1.cell 13
  go_wp2_with fail
  refine (rnew_yes c HO.out w1).mono ?_
  rintro e w2 ⟨r, g, rfl, R2, l2, hr1, hg1⟩
  have HF2 : Hid (w1.heap.size ≤ r ∧ r < w2.heap.size ∧ ∀ s, 1 ≤ s → s ≤ 4 → w1.heap.size ≤ g s ∧ g s < w2.heap.size) := ⟨hr1, R2.own.lt, fun s h1 h4 => ⟨hg1 s h1 h4, (R2.row s h1 h4).lt⟩⟩
  clear hr1 hg1
  clear k0 k1 k2 k3 k4 k5 k6 k7 k8 k9 k10 k11 k12 k13
  have L2 : Hid (Below w.heap.size w w2) := L1.out.trans (l2.mono L1.out.size)
  have HA2 : Hid (Ar w2 a h c (tops0 c) false (fun _ => 0)) := HA.out.below l2
  have HR2 : Hid (Ra w2 r g c (tops0 c) false (fun _ => 0)) := R2
  clear l2 f1 R2 HA L1
  go_wp2
  go_ret2
  have lb : Below w2.heap.size w2 (w2.alloc (.cells (btc a r) 39)) := Below.alloc (Below.refl _ _) (Nat.le_refl _) _
  obtain ⟨f1, f2, f3, f4⟩ := HF1.out
  obtain ⟨f5, f6, f7⟩ := HF2.out
  refine ⟨w2.heap.size, a, h, r, g, rfl, ⟨⟨btf a r, ?_, rfl, rfl⟩, HA2.out.below lb, HR2.out.below lb, HL.out.keep (L2.out.trans (lb.mono L2.out.size))⟩, L2.out.trans (lb.mono L2.out.size), ⟨f1, f2, by omega, by omega, f6, fun s h1 h4 => by have := f7 s h1 h4; omega⟩, heap_alloc_new w2 _⟩
  exact World.rowIs_alloc w2 (btc a r) 39 (btf a r) (by
    intro i hi
    match i, hi with
    | 0, _ | 1, _ | 2, _ | 3, _ => rfl
    | j + 4, h => exact absurd (show j + 4 < 4 from h) (by omega))

set_option maxHeartbeats 2000000 in
theorem begin_no (c : Cfg) (ho : ¬ c.Ok) (w : World) :
    Calls Tryz.prog 5 #[cv c] w fun e w' => ∃ p, e = .returned (.tuple #[.pointer (some ⟨p, 0, none⟩), .bool true]) ∧ w'.cell? ⟨p, 0, none⟩ = some (.pointer none) ∧ Below w.heap.size w w' ∧ w.heap.size ≤ p := by
  have l0 : Hid (Below w.heap.size w (w.alloc (.cells (ccells c) 23))) := Below.alloc (Below.refl _ _) (Nat.le_refl _) _
  have f0 := Cfd.new w c
  have h1 := new_no c ho (w.alloc (.cells (ccells c) 23))
  have HO : Hid (¬ c.Ok) := ho
  clear ho
  go_enter Tryz.func5, Tryz.ntmps5
  go_upto_region 1 with fail
  generalize w.alloc (.cells (ccells c) 23) = v at *
  have k0 : v.cell? ⟨w.heap.size, 0, none⟩ = some (.int .i64 c.eden) := f0.cell 0
  have k1 : v.cell? ⟨w.heap.size, 1, none⟩ = some (.int .i64 c.surv) := f0.cell 1
  have k2 : v.cell? ⟨w.heap.size, 2, none⟩ = some (.int .i64 c.ten) := f0.cell 2
  have k3 : v.cell? ⟨w.heap.size, 3, none⟩ = some (.int .i64 c.large) := f0.cell 3
  have k4 : v.cell? ⟨w.heap.size, 4, none⟩ = some (.int .i64 c.floor) := f0.cell 4
  have k5 : v.cell? ⟨w.heap.size, 5, none⟩ = some (.int .i64 c.num) := f0.cell 5
  have k6 : v.cell? ⟨w.heap.size, 6, none⟩ = some (.int .i64 c.den) := f0.cell 6
  have k7 : v.cell? ⟨w.heap.size, 7, none⟩ = some (.int .i64 c.target) := f0.cell 7
  have k8 : v.cell? ⟨w.heap.size, 8, none⟩ = some (.int .i64 c.maxAge) := f0.cell 8
  have k9 : v.cell? ⟨w.heap.size, 9, none⟩ = some (.int .i64 c.threads) := f0.cell 9
  have k10 : v.cell? ⟨w.heap.size, 10, none⟩ = some (.int .i64 c.slots) := f0.cell 10
  have k11 : v.cell? ⟨w.heap.size, 11, none⟩ = some (.int .i64 c.handles) := f0.cell 11
  have k12 : v.cell? ⟨w.heap.size, 12, none⟩ = some (.int .i64 c.buffer) := f0.cell 12
  have k13 : v.cell? ⟨w.heap.size, 13, none⟩ = some (.int .i64 c.workers) := f0.cell 13
  go_wp2_with fail
  refine h1.mono ?_
  rintro e w1 ⟨rfl, l1⟩
  clear k0 k1 k2 k3 k4 k5 k6 k7 k8 k9 k10 k11 k12 k13
  clear h1
  have f1 := f0.below l1
  have L1 : Hid (Below w.heap.size w w1) := l0.out.trans (l1.mono l0.out.size)
  clear l1 l0 f0
  have k0 : w1.cell? ⟨w.heap.size, 0, none⟩ = some (.int .i64 c.eden) := f1.cell 0
  have k1 : w1.cell? ⟨w.heap.size, 1, none⟩ = some (.int .i64 c.surv) := f1.cell 1
  have k2 : w1.cell? ⟨w.heap.size, 2, none⟩ = some (.int .i64 c.ten) := f1.cell 2
  have k3 : w1.cell? ⟨w.heap.size, 3, none⟩ = some (.int .i64 c.large) := f1.cell 3
  have k4 : w1.cell? ⟨w.heap.size, 4, none⟩ = some (.int .i64 c.floor) := f1.cell 4
  have k5 : w1.cell? ⟨w.heap.size, 5, none⟩ = some (.int .i64 c.num) := f1.cell 5
  have k6 : w1.cell? ⟨w.heap.size, 6, none⟩ = some (.int .i64 c.den) := f1.cell 6
  have k7 : w1.cell? ⟨w.heap.size, 7, none⟩ = some (.int .i64 c.target) := f1.cell 7
  have k8 : w1.cell? ⟨w.heap.size, 8, none⟩ = some (.int .i64 c.maxAge) := f1.cell 8
  have k9 : w1.cell? ⟨w.heap.size, 9, none⟩ = some (.int .i64 c.threads) := f1.cell 9
  have k10 : w1.cell? ⟨w.heap.size, 10, none⟩ = some (.int .i64 c.slots) := f1.cell 10
  have k11 : w1.cell? ⟨w.heap.size, 11, none⟩ = some (.int .i64 c.handles) := f1.cell 11
  have k12 : w1.cell? ⟨w.heap.size, 12, none⟩ = some (.int .i64 c.buffer) := f1.cell 12
  have k13 : w1.cell? ⟨w.heap.size, 13, none⟩ = some (.int .i64 c.workers) := f1.cell 13
  go_wp2_with fail
  refine (rnew_no c HO.out w1).mono ?_
  rintro e w2 ⟨rfl, l2⟩
  clear k0 k1 k2 k3 k4 k5 k6 k7 k8 k9 k10 k11 k12 k13
  have L2 : Hid (Below w.heap.size w w2) := L1.out.trans (l2.mono L1.out.size)
  clear l2 f1 L1
  go_wp2
  go_ret2
  have lb : Below w2.heap.size w2 (w2.alloc (.cells #[.pointer none, .pointer none, .slice none 0 0, .slice none 0 0] 39)) := Below.alloc (Below.refl _ _) (Nat.le_refl _) _
  exact ⟨w2.heap.size, rfl, cell_of_row _ _ 0 _ _ _ (heap_alloc_new w2 _), L2.out.trans (lb.mono L2.out.size), L2.out.size⟩

end Go.Proofs.YtbdkcelggffneaaGreatDoor
