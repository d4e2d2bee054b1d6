/-
  ArenaConfigs: the two arenas of one configuration.
-/
import Derived.Test.YtbdkcelggffneaaGreatDoorB6
set_option linter.unusedVariables false
set_option maxRecDepth 20000
namespace Go.Proofs.YtbdkcelggffneaaGreatDoor
open Go.RowKit Go.Shelf

section
variable (p a h r : Nat) (g : Nat → Nat) (c : Cfg) (x : Tps) (sw : Bool) (ws : Nat → Int)

set_option maxHeartbeats 4000000 in
theorem whole_any (hx : ∀ s, x.top s = fst c s) (w : World) (hB : Bo w p a h r g c x sw ws) :
    Calls Tryz.prog 8 #[.pointer (some ⟨p, 0, none⟩)] w fun e w' => e = .returned (.bool true) ∧ Below w.heap.size w w' := by
  have HB : Hid (Bo w p a h r g c x sw ws) := hB
  have c1 := hB.c1
  have hsz := rsize_any r g c x sw ws w hB.ra
  have hcw := hB.ar.words
  have HA : Hid (∀ i w1, Below w.heap.size w w1 → Calls Tryz.prog 18 #[.pointer (some ⟨a, 0, none⟩), .int .i64 i] w1 fun e w' => e = .returned (.int .u64 (wat c ws i)) ∧ w1 = w') := fun i w1 l => word_any3 a h c x sw ws i w1 (hB.below l).ar
  have HR : Hid (∀ i w1, Below w.heap.size w w1 → Calls Tryz.prog 19 #[.pointer (some ⟨r, 0, none⟩), .int .i64 i] w1 fun e w' => e = .returned (.int .u64 (wat c ws i)) ∧ Below w1.heap.size w1 w') := fun i w1 l => rword_any r g c x sw ws i w1 (hB.below l).ra
  have HS : Hid (∀ s w1, Below w.heap.size w w1 → Calls Tryz.prog 20 #[.pointer (some ⟨p, 0, none⟩), .int .i64 s] w1 fun e w' => e = .returned (.bool true) ∧ Below w1.heap.size w1 w') := fun s w1 l => lspace_any p a h r g c x sw ws s w1 (hB.below l)
  have HWk : Hid (∀ s w1, Below w.heap.size w w1 → Calls Tryz.prog 36 #[.pointer (some ⟨p, 0, none⟩), .int .i64 s, .int .i64 0] w1 fun e w' => e = .returned (.bool true) ∧ Below w1.heap.size w1 w') := fun s w1 l => lwalk0_any p a h r g c x sw ws hx s w1 (hB.below l)
  have H12 : Hid (∀ w1, Below w.heap.size w w1 → Calls Tryz.prog 7 #[.pointer (some ⟨p, 0, none⟩), opv 12] w1 fun e w' => e = .returned (.bool true) ∧ Below w1.heap.size w1 w') := fun w1 l => step12_any p a h r g c x sw ws w1 (hB.below l)
  have H18 : Hid (∀ w1, Below w.heap.size w w1 → Calls Tryz.prog 7 #[.pointer (some ⟨p, 0, none⟩), opv 18] w1 fun e w' => e = .returned (.bool true) ∧ Below w1.heap.size w1 w') := fun w1 l => step18_any p a h r g c x sw ws hx w1 (hB.below l)
  have H19 : Hid (∀ w1, Below w.heap.size w w1 → Calls Tryz.prog 7 #[.pointer (some ⟨p, 0, none⟩), opv 19] w1 fun e w' => e = .returned (.bool true) ∧ Below w1.heap.size w1 w') := fun w1 l => step19_any p a h r g c x sw ws w1 (hB.below l)
  clear hB hx
  generalize c.words = cw at *
  go_enter Tryz.func8, Tryz.ntmps8
  go_wp2_with fail
  refine hsz.mono ?_
  rintro e w1 ⟨rfl, rfl⟩
  clear hsz c1
  go_wp2
  go_loopw [4] (fun v wr => ∃ i : Int, -1 ≤ i ∧ i ≤ cw + 1 ∧ v = .int .i64 i ∧ Hid (Below w1.heap.size w1 wr)) (fun v _ => (cw + 1 - intOf v).toNat)
  case atStart => exact ⟨-1, by omega, by omega, rfl, Below.refl _ _⟩
  case round =>
    obtain ⟨i, hi0, hi1, rfl, bl⟩ := hrel
    by_cases hic : i ≤ cw
    · by_cases hs : 3000 < i ∧ i < cw - 3000
      · have hs1 := hs.1
        have hs2 := hs.2
        clear hs
        go_wp2
        go_roundw
        case rel => exact ⟨i + 1, by omega, by omega, rfl, bl.out⟩
        case measure => simp [intOf]; omega
      · have c0 := (HB.out.below bl.out).c0
        have c1 := (HB.out.below bl.out).c1
        by_cases hs1 : 3000 < i
        · have hs2 : ¬ i < cw - 3000 := fun hh => hs ⟨hs1, hh⟩
          have hs3 : decide (i < cw - 3000) = false := decide_eq_false hs2
          clear hs
          go_wp2_with fail
          refine (HA.out i _ bl.out).mono ?_
          rintro e w2 ⟨rfl, rfl⟩
          go_wp2_with fail
          refine (HR.out i _ bl.out).mono ?_
          rintro e w2 ⟨rfl, l2⟩
          have l3 : Hid (Below w1.heap.size w1 w2) := bl.out.trans (l2.mono bl.out.size)
          clear l2 bl c0 c1
          generalize wat c ws i = m at *
          go_wp2
          go_roundw
          case rel => exact ⟨i + 1, by omega, by omega, rfl, l3.out⟩
          case measure => simp [intOf]; omega
        · have hs3 : decide (3000 < i) = false := decide_eq_false hs1
          clear hs
          go_wp2_with fail
          refine (HA.out i _ bl.out).mono ?_
          rintro e w2 ⟨rfl, rfl⟩
          go_wp2_with fail
          refine (HR.out i _ bl.out).mono ?_
          rintro e w2 ⟨rfl, l2⟩
          have l3 : Hid (Below w1.heap.size w1 w2) := bl.out.trans (l2.mono bl.out.size)
          clear l2 bl c0 c1
          generalize wat c ws i = m at *
          go_wp2
          go_roundw
          case rel => exact ⟨i + 1, by omega, by omega, rfl, l3.out⟩
          case measure => simp [intOf]; omega
    · go_wp2
      clear HA HR hic hi0 hi1
      go_loopw [6] (fun v wr => ∃ s : Int, -1 ≤ s ∧ s ≤ 6 ∧ v = .int .i64 s ∧ Hid (Below w1.heap.size w1 wr)) (fun v _ => (6 - intOf v).toNat)
      case atStart => exact ⟨-1, by omega, by omega, rfl, bl.out⟩
      case round =>
        obtain ⟨s, h1, h6, rfl, bs⟩ := hrel
        clear bl
        by_cases hs : s < 6
        · go_wp2_with fail
          refine (HS.out s _ bs.out).mono ?_
          rintro e w2 ⟨rfl, l2⟩
          have l3 : Hid (Below w1.heap.size w1 w2) := bs.out.trans (l2.mono bs.out.size)
          clear l2 bs
          go_wp2_with fail
          refine (HWk.out s _ l3.out).mono ?_
          rintro e w3 ⟨rfl, l2⟩
          have l4 : Hid (Below w1.heap.size w1 w3) := l3.out.trans (l2.mono l3.out.size)
          clear l2 l3
          go_wp2
          go_roundw
          case rel => exact ⟨s + 1, by omega, by omega, rfl, l4.out⟩
          case measure => simp [intOf]; omega
        · clear HS HWk
          go_wp2
          go_loopw [7] (fun v wr => v = .int .i64 0 ∧ Hid (Below w1.heap.size w1 wr)) (fun _ _ => 0)
          case atStart => exact ⟨rfl, bs.out⟩
          case round =>
            obtain ⟨rfl, bt⟩ := hrel
            clear bs
            have c2 := (HB.out.below bt.out).c2
            go_wp2_with fail
            refine (H12.out _ bt.out).mono ?_
            rintro e w2 ⟨rfl, l2⟩
            have l3 : Hid (Below w1.heap.size w1 w2) := bt.out.trans (l2.mono bt.out.size)
            clear l2 bt c2
            go_wp2_with fail
            refine (H18.out _ l3.out).mono ?_
            rintro e w3 ⟨rfl, l2⟩
            have l4 : Hid (Below w1.heap.size w1 w3) := l3.out.trans (l2.mono l3.out.size)
            clear l2 l3
            go_wp2_with fail
            refine (H19.out _ l4.out).mono ?_
            rintro e w4 ⟨rfl, l2⟩
            have l5 : Hid (Below w1.heap.size w1 w4) := l4.out.trans (l2.mono l4.out.size)
            clear l2 l4
            go_wp2
            go_ret
            exact ⟨rfl, l5.out⟩
end

theorem tops0_top (c : Cfg) (s : Int) : (tops0 c).top s = fst c s := by
  unfold tops0 Tps.top fst
  rfl

set_option maxHeartbeats 2000000 in
theorem begin_yes (c : Cfg) (ho : c.Ok) (w : World) (hL : Laid w) :
    Calls Tryz.prog 5 #[cv c] w fun e w' => ∃ p a h r g, e = .returned (.tuple #[.pointer (some ⟨p, 0, none⟩), .bool true]) ∧ Bo w' p a h r g c (tops0 c) false (fun _ => 0) ∧ Below w.heap.size w w' := by
  have l0 : Hid (Below w.heap.size w (w.alloc (.cells (ccells c) 23))) := Below.alloc (Below.refl _ _) (Nat.le_refl _) _
  have f0 := Cfd.new w c
  have h1 := new_yes c ho (w.alloc (.cells (ccells c) 23))
  have HL : Hid (Laid w) := hL
  have HO : Hid c.Ok := ho
  clear hL ho
  go_enter Tryz.func5, Tryz.ntmps5
  go_upto_region 1 with fail
  generalize w.alloc (.cells (ccells c) 23) = v at *
  have k0 : v.cell? ⟨w.heap.size, 0, none⟩ = some (.int .i64 c.eden) := f0.cell 0
  have k1 : v.cell? ⟨w.heap.size, 1, none⟩ = some (.int .i64 c.surv) := f0.cell 1
  have k2 : v.cell? ⟨w.heap.size, 2, none⟩ = some (.int .i64 c.ten) := f0.cell 2
  have k3 : v.cell? ⟨w.heap.size, 3, none⟩ = some (.int .i64 c.large) := f0.cell 3
  have k4 : v.cell? ⟨w.heap.size, 4, none⟩ = some (.int .i64 c.floor) := f0.cell 4
  have k5 : v.cell? ⟨w.heap.size, 5, none⟩ = some (.int .i64 c.num) := f0.cell 5
  have k6 : v.cell? ⟨w.heap.size, 6, none⟩ = some (.int .i64 c.den) := f0.cell 6
  have k7 : v.cell? ⟨w.heap.size, 7, none⟩ = some (.int .i64 c.target) := f0.cell 7
  have k8 : v.cell? ⟨w.heap.size, 8, none⟩ = some (.int .i64 c.maxAge) := f0.cell 8
  have k9 : v.cell? ⟨w.heap.size, 9, none⟩ = some (.int .i64 c.threads) := f0.cell 9
  have k10 : v.cell? ⟨w.heap.size, 10, none⟩ = some (.int .i64 c.slots) := f0.cell 10
  have k11 : v.cell? ⟨w.heap.size, 11, none⟩ = some (.int .i64 c.handles) := f0.cell 11
  have k12 : v.cell? ⟨w.heap.size, 12, none⟩ = some (.int .i64 c.buffer) := f0.cell 12
  have k13 : v.cell? ⟨w.heap.size, 13, none⟩ = some (.int .i64 c.workers) := f0.cell 13
  go_wp2_with fail
  refine h1.mono ?_
  rintro e w1 ⟨a, h, rfl, A1, l1, -, -⟩
  clear k0 k1 k2 k3 k4 k5 k6 k7 k8 k9 k10 k11 k12 k13
  clear h1
  have f1 := f0.below l1
  have L1 : Hid (Below w.heap.size w w1) := l0.out.trans (l1.mono l0.out.size)
  have HA : Hid (Ar w1 a h c (tops0 c) false (fun _ => 0)) := A1
  clear l1 l0 A1 f0
  have k0 : w1.cell? ⟨w.heap.size, 0, none⟩ = some (.int .i64 c.eden) := f1.cell 0
  have k1 : w1.cell? ⟨w.heap.size, 1, none⟩ = some (.int .i64 c.surv) := f1.cell 1
  have k2 : w1.cell? ⟨w.heap.size, 2, none⟩ = some (.int .i64 c.ten) := f1.cell 2
  have k3 : w1.cell? ⟨w.heap.size, 3, none⟩ = some (.int .i64 c.large) := f1.cell 3
  have k4 : w1.cell? ⟨w.heap.size, 4, none⟩ = some (.int .i64 c.floor) := f1.cell 4
  have k5 : w1.cell? ⟨w.heap.size, 5, none⟩ = some (.int .i64 c.num) := f1.cell 5
  have k6 : w1.cell? ⟨w.heap.size, 6, none⟩ = some (.int .i64 c.den) := f1.cell 6
  have k7 : w1.cell? ⟨w.heap.size, 7, none⟩ = some (.int .i64 c.target) := f1.cell 7
  have k8 : w1.cell? ⟨w.heap.size, 8, none⟩ = some (.int .i64 c.maxAge) := f1.cell 8
  have k9 : w1.cell? ⟨w.heap.size, 9, none⟩ = some (.int .i64 c.threads) := f1.cell 9
  have k10 : w1.cell? ⟨w.heap.size, 10, none⟩ = some (.int .i64 c.slots) := f1.cell 10
  have k11 : w1.cell? ⟨w.heap.size, 11, none⟩ = some (.int .i64 c.handles) := f1.cell 11
  have k12 : w1.cell? ⟨w.heap.size, 12, none⟩ = some (.int .i64 c.buffer) := f1.cell 12
  have k13 : w1.cell? ⟨w.heap.size, 13, none⟩ = some (.int .i64 c.workers) := f1.cell 13
  go_wp2_with fail
  refine (rnew_yes c HO.out w1).mono ?_
  rintro e w2 ⟨r, g, rfl, R2, l2⟩
  clear k0 k1 k2 k3 k4 k5 k6 k7 k8 k9 k10 k11 k12 k13
  have L2 : Hid (Below w.heap.size w w2) := L1.out.trans (l2.mono L1.out.size)
  have HA2 : Hid (Ar w2 a h c (tops0 c) false (fun _ => 0)) := HA.out.below l2
  have HR2 : Hid (Ra w2 r g c (tops0 c) false (fun _ => 0)) := R2
  clear l2 f1 R2 HA L1
  go_wp2
  go_ret2
  have lb : Below w2.heap.size w2 (w2.alloc (.cells (btc a r) 39)) := Below.alloc (Below.refl _ _) (Nat.le_refl _) _
  refine ⟨w2.heap.size, a, h, r, g, rfl, ⟨?_, HA2.out.below lb, HR2.out.below lb, HL.out.keep (L2.out.trans (lb.mono L2.out.size))⟩, L2.out.trans (lb.mono L2.out.size)⟩
  exact World.rowIs_alloc w2 (btc a r) 39 (btf a r) (by
    intro i hi
    match i, hi with
    | 0, _ | 1, _ | 2, _ | 3, _ => rfl
    | j + 4, h => exact absurd (show j + 4 < 4 from h) (by omega))

set_option maxHeartbeats 2000000 in
theorem begin_no (c : Cfg) (ho : ¬ c.Ok) (w : World) :
    Calls Tryz.prog 5 #[cv c] w fun e w' => ∃ p, e = .returned (.tuple #[.pointer (some ⟨p, 0, none⟩), .bool true]) ∧ w'.cell? ⟨p, 0, none⟩ = some (.pointer none) ∧ Below w.heap.size w w' := by
  have l0 : Hid (Below w.heap.size w (w.alloc (.cells (ccells c) 23))) := Below.alloc (Below.refl _ _) (Nat.le_refl _) _
  have f0 := Cfd.new w c
  have h1 := new_no c ho (w.alloc (.cells (ccells c) 23))
  have HO : Hid (¬ c.Ok) := ho
  clear ho
  go_enter Tryz.func5, Tryz.ntmps5
  go_upto_region 1 with fail
  generalize w.alloc (.cells (ccells c) 23) = v at *
  have k0 : v.cell? ⟨w.heap.size, 0, none⟩ = some (.int .i64 c.eden) := f0.cell 0
  have k1 : v.cell? ⟨w.heap.size, 1, none⟩ = some (.int .i64 c.surv) := f0.cell 1
  have k2 : v.cell? ⟨w.heap.size, 2, none⟩ = some (.int .i64 c.ten) := f0.cell 2
  have k3 : v.cell? ⟨w.heap.size, 3, none⟩ = some (.int .i64 c.large) := f0.cell 3
  have k4 : v.cell? ⟨w.heap.size, 4, none⟩ = some (.int .i64 c.floor) := f0.cell 4
  have k5 : v.cell? ⟨w.heap.size, 5, none⟩ = some (.int .i64 c.num) := f0.cell 5
  have k6 : v.cell? ⟨w.heap.size, 6, none⟩ = some (.int .i64 c.den) := f0.cell 6
  have k7 : v.cell? ⟨w.heap.size, 7, none⟩ = some (.int .i64 c.target) := f0.cell 7
  have k8 : v.cell? ⟨w.heap.size, 8, none⟩ = some (.int .i64 c.maxAge) := f0.cell 8
  have k9 : v.cell? ⟨w.heap.size, 9, none⟩ = some (.int .i64 c.threads) := f0.cell 9
  have k10 : v.cell? ⟨w.heap.size, 10, none⟩ = some (.int .i64 c.slots) := f0.cell 10
  have k11 : v.cell? ⟨w.heap.size, 11, none⟩ = some (.int .i64 c.handles) := f0.cell 11
  have k12 : v.cell? ⟨w.heap.size, 12, none⟩ = some (.int .i64 c.buffer) := f0.cell 12
  have k13 : v.cell? ⟨w.heap.size, 13, none⟩ = some (.int .i64 c.workers) := f0.cell 13
  go_wp2_with fail
  refine h1.mono ?_
  rintro e w1 ⟨rfl, l1⟩
  clear k0 k1 k2 k3 k4 k5 k6 k7 k8 k9 k10 k11 k12 k13
  clear h1
  have f1 := f0.below l1
  have L1 : Hid (Below w.heap.size w w1) := l0.out.trans (l1.mono l0.out.size)
  clear l1 l0 f0
  have k0 : w1.cell? ⟨w.heap.size, 0, none⟩ = some (.int .i64 c.eden) := f1.cell 0
  have k1 : w1.cell? ⟨w.heap.size, 1, none⟩ = some (.int .i64 c.surv) := f1.cell 1
  have k2 : w1.cell? ⟨w.heap.size, 2, none⟩ = some (.int .i64 c.ten) := f1.cell 2
  have k3 : w1.cell? ⟨w.heap.size, 3, none⟩ = some (.int .i64 c.large) := f1.cell 3
  have k4 : w1.cell? ⟨w.heap.size, 4, none⟩ = some (.int .i64 c.floor) := f1.cell 4
  have k5 : w1.cell? ⟨w.heap.size, 5, none⟩ = some (.int .i64 c.num) := f1.cell 5
  have k6 : w1.cell? ⟨w.heap.size, 6, none⟩ = some (.int .i64 c.den) := f1.cell 6
  have k7 : w1.cell? ⟨w.heap.size, 7, none⟩ = some (.int .i64 c.target) := f1.cell 7
  have k8 : w1.cell? ⟨w.heap.size, 8, none⟩ = some (.int .i64 c.maxAge) := f1.cell 8
  have k9 : w1.cell? ⟨w.heap.size, 9, none⟩ = some (.int .i64 c.threads) := f1.cell 9
  have k10 : w1.cell? ⟨w.heap.size, 10, none⟩ = some (.int .i64 c.slots) := f1.cell 10
  have k11 : w1.cell? ⟨w.heap.size, 11, none⟩ = some (.int .i64 c.handles) := f1.cell 11
  have k12 : w1.cell? ⟨w.heap.size, 12, none⟩ = some (.int .i64 c.buffer) := f1.cell 12
  have k13 : w1.cell? ⟨w.heap.size, 13, none⟩ = some (.int .i64 c.workers) := f1.cell 13
  go_wp2_with fail
  refine (rnew_no c HO.out w1).mono ?_
  rintro e w2 ⟨rfl, l2⟩
  clear k0 k1 k2 k3 k4 k5 k6 k7 k8 k9 k10 k11 k12 k13
  have L2 : Hid (Below w.heap.size w w2) := L1.out.trans (l2.mono L1.out.size)
  clear l2 f1 L1
  go_wp2
  go_ret2
  have lb : Below w2.heap.size w2 (w2.alloc (.cells #[.pointer none, .pointer none, .slice none 0 0, .slice none 0 0] 39)) := Below.alloc (Below.refl _ _) (Nat.le_refl _) _
  exact ⟨w2.heap.size, rfl, cell_of_row _ _ 0 _ _ _ (heap_alloc_new w2 _), L2.out.trans (lb.mono L2.out.size)⟩

set_option maxHeartbeats 4000000 in
theorem configs_any (c : Cfg) (w : World) (hL : Laid w) :
    Calls Tryz.prog 4 #[cv c] w fun e w' => e = .returned (.bool true) ∧ Below w.heap.size w w' := by
  have l0 : Hid (Below w.heap.size w (w.alloc (.cells (ccells c) 23))) := Below.alloc (Below.refl _ _) (Nat.le_refl _) _
  have f0 := Cfd.new w c
  have HL : Hid (Laid w) := hL
  have hv := valid_any c (decide c.Okd) (by rw [decide_eq_true_iff]; exact c.okd) (w.alloc (.cells (ccells c) 23))
  have HR : Hid (∀ w1, Calls Tryz.prog 10 #[cv c] w1 fun e w' => e = .returned (.bool (decide c.Okd)) ∧ Below w1.heap.size w1 w') := rvalid_any c
  have HO : Hid (c.Ok ∨ ¬ c.Ok) := Classical.em _
  clear hL
  generalize decide c.Okd = V at *
  go_enter Tryz.func4, Tryz.ntmps4
  go_upto_region 1 with fail
  generalize w.alloc (.cells (ccells c) 23) = v at *
  have k0 : v.cell? ⟨w.heap.size, 0, none⟩ = some (.int .i64 c.eden) := f0.cell 0
  have k1 : v.cell? ⟨w.heap.size, 1, none⟩ = some (.int .i64 c.surv) := f0.cell 1
  have k2 : v.cell? ⟨w.heap.size, 2, none⟩ = some (.int .i64 c.ten) := f0.cell 2
  have k3 : v.cell? ⟨w.heap.size, 3, none⟩ = some (.int .i64 c.large) := f0.cell 3
  have k4 : v.cell? ⟨w.heap.size, 4, none⟩ = some (.int .i64 c.floor) := f0.cell 4
  have k5 : v.cell? ⟨w.heap.size, 5, none⟩ = some (.int .i64 c.num) := f0.cell 5
  have k6 : v.cell? ⟨w.heap.size, 6, none⟩ = some (.int .i64 c.den) := f0.cell 6
  have k7 : v.cell? ⟨w.heap.size, 7, none⟩ = some (.int .i64 c.target) := f0.cell 7
  have k8 : v.cell? ⟨w.heap.size, 8, none⟩ = some (.int .i64 c.maxAge) := f0.cell 8
  have k9 : v.cell? ⟨w.heap.size, 9, none⟩ = some (.int .i64 c.threads) := f0.cell 9
  have k10 : v.cell? ⟨w.heap.size, 10, none⟩ = some (.int .i64 c.slots) := f0.cell 10
  have k11 : v.cell? ⟨w.heap.size, 11, none⟩ = some (.int .i64 c.handles) := f0.cell 11
  have k12 : v.cell? ⟨w.heap.size, 12, none⟩ = some (.int .i64 c.buffer) := f0.cell 12
  have k13 : v.cell? ⟨w.heap.size, 13, none⟩ = some (.int .i64 c.workers) := f0.cell 13
  go_wp2_with fail
  refine hv.mono ?_
  rintro e w1 ⟨rfl, l1⟩
  clear k0 k1 k2 k3 k4 k5 k6 k7 k8 k9 k10 k11 k12 k13
  have f1 := f0.below l1
  have L1 : Hid (Below w.heap.size w w1) := l0.out.trans (l1.mono l0.out.size)
  clear l1 l0 f0 hv
  have k0 : w1.cell? ⟨w.heap.size, 0, none⟩ = some (.int .i64 c.eden) := f1.cell 0
  have k1 : w1.cell? ⟨w.heap.size, 1, none⟩ = some (.int .i64 c.surv) := f1.cell 1
  have k2 : w1.cell? ⟨w.heap.size, 2, none⟩ = some (.int .i64 c.ten) := f1.cell 2
  have k3 : w1.cell? ⟨w.heap.size, 3, none⟩ = some (.int .i64 c.large) := f1.cell 3
  have k4 : w1.cell? ⟨w.heap.size, 4, none⟩ = some (.int .i64 c.floor) := f1.cell 4
  have k5 : w1.cell? ⟨w.heap.size, 5, none⟩ = some (.int .i64 c.num) := f1.cell 5
  have k6 : w1.cell? ⟨w.heap.size, 6, none⟩ = some (.int .i64 c.den) := f1.cell 6
  have k7 : w1.cell? ⟨w.heap.size, 7, none⟩ = some (.int .i64 c.target) := f1.cell 7
  have k8 : w1.cell? ⟨w.heap.size, 8, none⟩ = some (.int .i64 c.maxAge) := f1.cell 8
  have k9 : w1.cell? ⟨w.heap.size, 9, none⟩ = some (.int .i64 c.threads) := f1.cell 9
  have k10 : w1.cell? ⟨w.heap.size, 10, none⟩ = some (.int .i64 c.slots) := f1.cell 10
  have k11 : w1.cell? ⟨w.heap.size, 11, none⟩ = some (.int .i64 c.handles) := f1.cell 11
  have k12 : w1.cell? ⟨w.heap.size, 12, none⟩ = some (.int .i64 c.buffer) := f1.cell 12
  have k13 : w1.cell? ⟨w.heap.size, 13, none⟩ = some (.int .i64 c.workers) := f1.cell 13
  go_wp2_with fail
  rcases HO.out with ho | ho
  · refine (begin_yes c ho w1 (HL.out.keep L1.out)).mono ?_
    rintro e w2 ⟨p, a, h, r, g, rfl, B2, l2⟩
    clear k0 k1 k2 k3 k4 k5 k6 k7 k8 k9 k10 k11 k12 k13
    have f2 := f1.below l2
    have L2 : Hid (Below w.heap.size w w2) := L1.out.trans (l2.mono L1.out.size)
    have HB2 : Hid (Bo w2 p a h r g c (tops0 c) false (fun _ => 0)) := B2
    clear l2 f1 B2 L1
    have k0 : w2.cell? ⟨w.heap.size, 0, none⟩ = some (.int .i64 c.eden) := f2.cell 0
    have k1 : w2.cell? ⟨w.heap.size, 1, none⟩ = some (.int .i64 c.surv) := f2.cell 1
    have k2 : w2.cell? ⟨w.heap.size, 2, none⟩ = some (.int .i64 c.ten) := f2.cell 2
    have k3 : w2.cell? ⟨w.heap.size, 3, none⟩ = some (.int .i64 c.large) := f2.cell 3
    have k4 : w2.cell? ⟨w.heap.size, 4, none⟩ = some (.int .i64 c.floor) := f2.cell 4
    have k5 : w2.cell? ⟨w.heap.size, 5, none⟩ = some (.int .i64 c.num) := f2.cell 5
    have k6 : w2.cell? ⟨w.heap.size, 6, none⟩ = some (.int .i64 c.den) := f2.cell 6
    have k7 : w2.cell? ⟨w.heap.size, 7, none⟩ = some (.int .i64 c.target) := f2.cell 7
    have k8 : w2.cell? ⟨w.heap.size, 8, none⟩ = some (.int .i64 c.maxAge) := f2.cell 8
    have k9 : w2.cell? ⟨w.heap.size, 9, none⟩ = some (.int .i64 c.threads) := f2.cell 9
    have k10 : w2.cell? ⟨w.heap.size, 10, none⟩ = some (.int .i64 c.slots) := f2.cell 10
    have k11 : w2.cell? ⟨w.heap.size, 11, none⟩ = some (.int .i64 c.handles) := f2.cell 11
    have k12 : w2.cell? ⟨w.heap.size, 12, none⟩ = some (.int .i64 c.buffer) := f2.cell 12
    have k13 : w2.cell? ⟨w.heap.size, 13, none⟩ = some (.int .i64 c.workers) := f2.cell 13
    go_wp2_with fail
    refine (HR.out w2).mono ?_
    rintro e w3 ⟨rfl, l3⟩
    clear k0 k1 k2 k3 k4 k5 k6 k7 k8 k9 k10 k11 k12 k13
    have L3 : Hid (Below w.heap.size w w3) := L2.out.trans (l3.mono L2.out.size)
    have HB3 : Hid (Bo w3 p a h r g c (tops0 c) false (fun _ => 0)) := HB2.out.below l3
    clear l3 L2 HB2 f2
    go_wp2_with fail
    refine (known3_any w3 (HL.out.keep L3.out)).mono ?_
    rintro e w4 ⟨rfl, l4⟩
    have L4 : Hid (Below w.heap.size w w4) := L3.out.trans (l4.mono L3.out.size)
    have HB4 : Hid (Bo w4 p a h r g c (tops0 c) false (fun _ => 0)) := HB3.out.below l4
    have c0 := HB4.out.c0
    clear l4 L3 HB3
    go_wp2_with fail
    refine (whole_any p a h r g c (tops0 c) false (fun _ => 0) (tops0_top c) w4 HB4.out).mono ?_
    rintro e w5 ⟨rfl, l5⟩
    have L5 : Hid (Below w.heap.size w w5) := L4.out.trans (l5.mono L4.out.size)
    clear l5 c0
    go_wp2
    go_ret
    exact ⟨rfl, L5.out⟩
  · refine (begin_no c ho w1).mono ?_
    rintro e w2 ⟨p, rfl, b2, l2⟩
    clear k0 k1 k2 k3 k4 k5 k6 k7 k8 k9 k10 k11 k12 k13
    have f2 := f1.below l2
    have L2 : Hid (Below w.heap.size w w2) := L1.out.trans (l2.mono L1.out.size)
    have hp := World.block_lt_of_cell? _ _ b2
    clear l2 f1 L1
    have k0 : w2.cell? ⟨w.heap.size, 0, none⟩ = some (.int .i64 c.eden) := f2.cell 0
    have k1 : w2.cell? ⟨w.heap.size, 1, none⟩ = some (.int .i64 c.surv) := f2.cell 1
    have k2 : w2.cell? ⟨w.heap.size, 2, none⟩ = some (.int .i64 c.ten) := f2.cell 2
    have k3 : w2.cell? ⟨w.heap.size, 3, none⟩ = some (.int .i64 c.large) := f2.cell 3
    have k4 : w2.cell? ⟨w.heap.size, 4, none⟩ = some (.int .i64 c.floor) := f2.cell 4
    have k5 : w2.cell? ⟨w.heap.size, 5, none⟩ = some (.int .i64 c.num) := f2.cell 5
    have k6 : w2.cell? ⟨w.heap.size, 6, none⟩ = some (.int .i64 c.den) := f2.cell 6
    have k7 : w2.cell? ⟨w.heap.size, 7, none⟩ = some (.int .i64 c.target) := f2.cell 7
    have k8 : w2.cell? ⟨w.heap.size, 8, none⟩ = some (.int .i64 c.maxAge) := f2.cell 8
    have k9 : w2.cell? ⟨w.heap.size, 9, none⟩ = some (.int .i64 c.threads) := f2.cell 9
    have k10 : w2.cell? ⟨w.heap.size, 10, none⟩ = some (.int .i64 c.slots) := f2.cell 10
    have k11 : w2.cell? ⟨w.heap.size, 11, none⟩ = some (.int .i64 c.handles) := f2.cell 11
    have k12 : w2.cell? ⟨w.heap.size, 12, none⟩ = some (.int .i64 c.buffer) := f2.cell 12
    have k13 : w2.cell? ⟨w.heap.size, 13, none⟩ = some (.int .i64 c.workers) := f2.cell 13
    have HB2 : Hid (w2.cell? ⟨p, 0, none⟩ = some (.pointer none) ∧ p < w2.heap.size) := ⟨b2, hp⟩
    clear b2 hp
    go_wp2_with fail
    refine (HR.out w2).mono ?_
    rintro e w3 ⟨rfl, l3⟩
    clear k0 k1 k2 k3 k4 k5 k6 k7 k8 k9 k10 k11 k12 k13
    have L3 : Hid (Below w.heap.size w w3) := L2.out.trans (l3.mono L2.out.size)
    have HB3 : Hid (w3.cell? ⟨p, 0, none⟩ = some (.pointer none) ∧ p < w3.heap.size) := ⟨(l3.cell (p := ⟨p, 0, none⟩) HB2.out.2).trans HB2.out.1, Nat.lt_of_lt_of_le HB2.out.2 l3.size⟩
    clear l3 L2 HB2 f2
    go_wp2_with fail
    refine (known3_any w3 (HL.out.keep L3.out)).mono ?_
    rintro e w4 ⟨rfl, l4⟩
    have L4 : Hid (Below w.heap.size w w4) := L3.out.trans (l4.mono L3.out.size)
    have c0 : w4.cell? ⟨p, 0, none⟩ = some (.pointer none) := (l4.cell (p := ⟨p, 0, none⟩) HB3.out.2).trans HB3.out.1
    clear l4 L3 HB3
    go_wp2
    go_ret
    exact ⟨rfl, L4.out⟩

end Go.Proofs.YtbdkcelggffneaaGreatDoor
