/-
  Cut, To, Swap, Space, Young.
-/
import Derived.Test.YtpiemfchjlihfaaDoorA2
set_option linter.unusedVariables false
namespace Go.Proofs.YtpiemfchjlihfaaDoor
open Go.RowKit

theorem af_sw (c : Cfg) (g n : Nat) (x : Tps) (sw sw' : Bool) (j : Nat) (hj : j < 28) : (if j = 27 then Value.bool sw' else af c g n x sw j) = af c g n x sw' j := by
  match j, hj with
  | 0, _ | 1, _ | 2, _ | 3, _ | 4, _ | 5, _ | 6, _ | 7, _ | 8, _ | 9, _ | 10, _ | 11, _ | 12, _ | 13, _ | 14, _ | 15, _ | 16, _ | 17, _ | 18, _ | 19, _ | 20, _ | 21, _ | 22, _ | 23, _ | 24, _ | 25, _ | 26, _ | 27, _ => simp [af]
  | j + 28, h => omega

/-- The space in which a word lies (P3.6). -/
def spc (c : Cfg) (i : Int) : Int := if i < 1 then 0 else if i < 1 + c.eden then 1 else if i < 1 + c.eden + c.surv then 2 else if i < 1 + c.eden + c.surv + c.surv then 3 else if i < 1 + c.eden + c.surv + c.surv + c.ten then 4 else 0

abbrev ev12 (a b d e f g h i j k l m : Int) : Value := .agg #[.int .i64 a, .int .i64 b, .int .i64 d, .int .i64 e, .int .i64 f, .int .i64 g, .int .i64 h, .int .i64 i, .int .i64 j, .int .i64 k, .int .i64 l, .int .i64 m]

theorem idx0 (a b d e f g h i j k l m : Int) (w : World) : (Instr.index 62 (ev12 a b d e f g h i j k l m) (.int .i64 0)).run Tryd.prog w = .ok (ev a b d) w := by kernel_rfl
theorem idx1 (a b d e f g h i j k l m : Int) (w : World) : (Instr.index 62 (ev12 a b d e f g h i j k l m) (.int .i64 1)).run Tryd.prog w = .ok (ev e f g) w := by kernel_rfl
theorem idx2 (a b d e f g h i j k l m : Int) (w : World) : (Instr.index 62 (ev12 a b d e f g h i j k l m) (.int .i64 2)).run Tryd.prog w = .ok (ev h i j) w := by kernel_rfl
theorem idx3 (a b d e f g h i j k l m : Int) (w : World) : (Instr.index 62 (ev12 a b d e f g h i j k l m) (.int .i64 3)).run Tryd.prog w = .ok (ev k l m) w := by kernel_rfl

set_option maxHeartbeats 2000000 in
theorem space_core (b : Nat) (f1 f2 f3 f4 f5 t1 t2 t3 t4 i r : Int) (hr : Hid (r = if i < f1 then 0 else if i < f2 then 1 else if i < f3 then 2 else if i < f4 then 3 else if i < f5 then 4 else 0)) (o1 : f1 ≤ f2) (o2 : f2 ≤ f3) (o3 : f3 ≤ f4) (o4 : f4 ≤ f5) (w : World)
    (k0 : w.cell? ⟨b, 15, none⟩ = some (.int .i64 f1)) (k1 : w.cell? ⟨b, 16, none⟩ = some (.int .i64 f2)) (k2 : w.cell? ⟨b, 17, none⟩ = some (.int .i64 t1))
    (k3 : w.cell? ⟨b, 18, none⟩ = some (.int .i64 f2)) (k4 : w.cell? ⟨b, 19, none⟩ = some (.int .i64 f3)) (k5 : w.cell? ⟨b, 20, none⟩ = some (.int .i64 t2))
    (k6 : w.cell? ⟨b, 21, none⟩ = some (.int .i64 f3)) (k7 : w.cell? ⟨b, 22, none⟩ = some (.int .i64 f4)) (k8 : w.cell? ⟨b, 23, none⟩ = some (.int .i64 t3))
    (k9 : w.cell? ⟨b, 24, none⟩ = some (.int .i64 f4)) (k10 : w.cell? ⟨b, 25, none⟩ = some (.int .i64 f5)) (k11 : w.cell? ⟨b, 26, none⟩ = some (.int .i64 t4)) :
    Calls Tryd.prog 81 #[.pointer (some ⟨b, 0, none⟩), .int .i64 i] w fun e w' => e = .returned (.int .i64 r) ∧ Below w.heap.size w w' := by
  have e0 := idx0 f1 f2 t1 f2 f3 t2 f3 f4 t3 f4 f5 t4
  have e1 := idx1 f1 f2 t1 f2 f3 t2 f3 f4 t3 f4 f5 t4
  have e2 := idx2 f1 f2 t1 f2 f3 t2 f3 f4 t3 f4 f5 t4
  have e3 := idx3 f1 f2 t1 f2 f3 t2 f3 f4 t3 f4 f5 t4
  go_enter Tryd.func81, Tryd.ntmps81
  go_wp2
  clear k0 k1 k2 k3 k4 k5 k6 k7 k8 k9 k10 k11
  go_loopw [11] (fun n wr => ∃ j : Int, 0 ≤ j ∧ j ≤ 4 ∧ n = .int .i64 j ∧ Below w.heap.size w wr ∧ (0 < j → i < f1 ∨ f2 ≤ i) ∧ (1 < j → i < f1 ∨ f3 ≤ i) ∧ (2 < j → i < f1 ∨ f4 ≤ i) ∧ (3 < j → i < f1 ∨ f5 ≤ i)) (fun n _ => 4 - (intOf n).toNat)
  case atStart => exact ⟨0, by omega, by omega, rfl, Below.refl _ _, by omega, by omega, by omega, by omega⟩
  case round =>
    obtain ⟨j, hj0, hj, rfl, bl, q1, q2, q3, q4⟩ := hrel
    obtain rfl | rfl | rfl | rfl | rfl : j = 0 ∨ j = 1 ∨ j = 2 ∨ j = 3 ∨ j = 4 := by omega
    · by_cases c1 : f1 ≤ i
      · by_cases c2 : i < f2
        · have hr0 : r = 1 := by
            rw [hr.out]
            repeat' split
            all_goals first | rfl | (exfalso; omega)
          clear q1 q2 q3 q4 hr
          go_wp2
          go_ret
          refine ⟨by subst hr0; rfl, ?_⟩
          go_grown
          exact bl.size
        · go_wp2
          go_roundw
          case rel => exact ⟨1, by omega, by omega, rfl, Below.alloc bl bl.size _, by omega, by omega, by omega, by omega⟩
          case measure => simp [intOf]
      · go_wp2
        go_roundw
        case rel => exact ⟨1, by omega, by omega, rfl, Below.alloc bl bl.size _, by omega, by omega, by omega, by omega⟩
        case measure => simp [intOf]
    · by_cases c1 : f2 ≤ i
      · by_cases c2 : i < f3
        · have hr0 : r = 2 := by
            rw [hr.out]
            repeat' split
            all_goals first | rfl | (exfalso; omega)
          clear q1 q2 q3 q4 hr
          go_wp2
          go_ret
          refine ⟨by subst hr0; rfl, ?_⟩
          go_grown
          exact bl.size
        · go_wp2
          go_roundw
          case rel => exact ⟨2, by omega, by omega, rfl, Below.alloc bl bl.size _, by omega, by omega, by omega, by omega⟩
          case measure => simp [intOf]
      · go_wp2
        go_roundw
        case rel => exact ⟨2, by omega, by omega, rfl, Below.alloc bl bl.size _, by omega, by omega, by omega, by omega⟩
        case measure => simp [intOf]
    · by_cases c1 : f3 ≤ i
      · by_cases c2 : i < f4
        · have hr0 : r = 3 := by
            rw [hr.out]
            repeat' split
            all_goals first | rfl | (exfalso; omega)
          clear q1 q2 q3 q4 hr
          go_wp2
          go_ret
          refine ⟨by subst hr0; rfl, ?_⟩
          go_grown
          exact bl.size
        · go_wp2
          go_roundw
          case rel => exact ⟨3, by omega, by omega, rfl, Below.alloc bl bl.size _, by omega, by omega, by omega, by omega⟩
          case measure => simp [intOf]
      · go_wp2
        go_roundw
        case rel => exact ⟨3, by omega, by omega, rfl, Below.alloc bl bl.size _, by omega, by omega, by omega, by omega⟩
        case measure => simp [intOf]
    · by_cases c1 : f4 ≤ i
      · by_cases c2 : i < f5
        · have hr0 : r = 4 := by
            rw [hr.out]
            repeat' split
            all_goals first | rfl | (exfalso; omega)
          clear q1 q2 q3 q4 hr
          go_wp2
          go_ret
          refine ⟨by subst hr0; rfl, ?_⟩
          go_grown
          exact bl.size
        · go_wp2
          go_roundw
          case rel => exact ⟨4, by omega, by omega, rfl, Below.alloc bl bl.size _, by omega, by omega, by omega, by omega⟩
          case measure => simp [intOf]
      · go_wp2
        go_roundw
        case rel => exact ⟨4, by omega, by omega, rfl, Below.alloc bl bl.size _, by omega, by omega, by omega, by omega⟩
        case measure => simp [intOf]
    · have hr0 : r = 0 := by
        rw [hr.out]
        repeat' split
        all_goals first | rfl | (exfalso; omega)
      clear q1 q2 q3 q4 hr
      go_wp2
      go_ret
      exact ⟨by subst hr0; rfl, bl⟩

theorem space_any (b g : Nat) (c : Cfg) (x : Tps) (sw : Bool) (ws : Nat → Int) (i : Int) (w : World) (h : Ar w b g c x sw ws) :
    Calls Tryd.prog 81 #[.pointer (some ⟨b, 0, none⟩), .int .i64 i] w fun e w' => e = .returned (.int .i64 (spc c i)) ∧ Below w.heap.size w w' := by
  have := h.ok.e0; have := h.ok.s0; have := h.ok.t0
  have k : ∀ j, j < 28 → w.cell? ⟨b, j, none⟩ = some (af c g c.words.toNat x sw j) := fun j hj => h.own.cell hj
  exact space_core b 1 _ _ _ _ _ _ _ _ i _ rfl (by omega) (by omega) (by omega) (by omega) w (k 15 (by decide)) (k 16 (by decide)) (k 17 (by decide)) (k 18 (by decide)) (k 19 (by decide)) (k 20 (by decide)) (k 21 (by decide)) (k 22 (by decide)) (k 23 (by decide)) (k 24 (by decide)) (k 25 (by decide)) (k 26 (by decide))

end Go.Proofs.YtpiemfchjlihfaaDoor
