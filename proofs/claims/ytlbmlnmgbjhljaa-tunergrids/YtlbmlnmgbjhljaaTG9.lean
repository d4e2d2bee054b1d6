/-
  TunerGrids: its walk.
-/
import Derived.Test.YtlbmlnmgbjhljaaTG4
import Derived.Deep.RegionHeld3
set_option linter.unusedVariables false
set_option maxRecDepth 20000
namespace Go.Proofs.Ytlbmlnmgbjhljaa
open Go.RowKit

/-- v reads as these configurations. -/
def Crd (n0 : Nat) (w : World) (v : Value) (l : List Cfg) : Prop :=
  ∃ a cap, v = .slice a l.length cap ∧ ∀ (i : Nat) c, l[i]? = some c → ∃ q, a = some ⟨q, 0, none⟩ ∧ q < n0 ∧ ∀ j, j < 14 → w.cell? ⟨q, i * 14 + j, none⟩ = (ccells c)[j]?

theorem Crd.of {w : World} {base : Nat} {v : Value} {l : List Cfg} (h : Cl w base v l) : Crd w.heap.size w v l := by
  obtain ⟨a, cap, rfl⟩ := own_sl h
  refine ⟨a, cap, rfl, fun i c hi => ?_⟩
  obtain ⟨q, cap', e, hq, hc⟩ := Cl.read h hi
  cases e
  exact ⟨q, rfl, hq, hc⟩

theorem Crd.below {n0 : Nat} {w w' : World} {v : Value} {l : List Cfg} (h : Crd n0 w v l) (hb : Below n0 w w') : Crd n0 w' v l := by
  obtain ⟨a, cap, rfl, h⟩ := h
  refine ⟨a, cap, rfl, fun i c hi => ?_⟩
  obtain ⟨q, e, hq, hc⟩ := h i c hi
  exact ⟨q, e, hq, fun j hj => (hb.cell (p := ⟨q, i * 14 + j, none⟩) hq).trans (hc j hj)⟩

theorem Crd.mono {n0 n1 : Nat} {w : World} {v : Value} {l : List Cfg} (h : Crd n0 w v l) (hn : n0 ≤ n1) : Crd n1 w v l := by
  obtain ⟨a, cap, rfl, h⟩ := h
  refine ⟨a, cap, rfl, fun i c hi => ?_⟩
  obtain ⟨q, e, hq, hc⟩ := h i c hi
  exact ⟨q, e, Nat.lt_of_lt_of_le hq hn, hc⟩

set_option maxHeartbeats 8000000 in
theorem sameCfgs_any (n0 : Nat) (va vb : Value) (l : List Cfg) (w : World) (ha : Crd n0 w va l) (hb : Crd n0 w vb l) (hl : l.length ≤ 1000) :
    Calls Try.prog 7 #[va, vb] w fun e w' => e = .returned (.bool true) ∧ Below w.heap.size w w' := by
  obtain ⟨aa, ca, rfl, ha⟩ := ha
  obtain ⟨ab, cb, rfl, hb⟩ := hb
  have HA : Hid (∀ (i : Nat) c, l[i]? = some c → ∃ q, aa = some ⟨q, 0, none⟩ ∧ q < n0 ∧ ∀ j, j < 14 → w.cell? ⟨q, i * 14 + j, none⟩ = (ccells c)[j]?) := ha
  have HB : Hid (∀ (i : Nat) c, l[i]? = some c → ∃ q, ab = some ⟨q, 0, none⟩ ∧ q < n0 ∧ ∀ j, j < 14 → w.cell? ⟨q, i * 14 + j, none⟩ = (ccells c)[j]?) := hb
  clear ha hb
  go_enter Try.func7, Try.ntmps7
  go_wp2
  go_loopw [5] (fun i wr => ∃ k n : Nat, k ≤ l.length ∧ i = .int .i64 k ∧ wr = w.drewN n) (fun i _ => l.length - (intOf i).toNat)
  case atStart => exact ⟨0, 0, by omega, rfl, rfl⟩
  case round =>
    obtain ⟨k, n, hk, rfl, rfl⟩ := hrel
    by_cases hlt : k < l.length
    · obtain ⟨x, hx⟩ : ∃ x, l[k]? = some x := ⟨_, List.getElem?_eq_getElem hlt⟩
      have hkI : (k : Int) < (l.length : Int) := by omega
      obtain ⟨qa, rfl, -, hca⟩ := HA.out k x hx
      obtain ⟨qb, rfl, -, hcb⟩ := HB.out k x hx
      have a0 : w.cell? ⟨qa, k * 14, none⟩ = some (.int .i64 x.eden) := hca 0 (by decide)
      have b0 : w.cell? ⟨qb, k * 14, none⟩ = some (.int .i64 x.eden) := hcb 0 (by decide)
      have a1 : w.cell? ⟨qa, k * 14 + 1, none⟩ = some (.int .i64 x.surv) := hca 1 (by decide)
      have b1 : w.cell? ⟨qb, k * 14 + 1, none⟩ = some (.int .i64 x.surv) := hcb 1 (by decide)
      have a2 : w.cell? ⟨qa, k * 14 + 2, none⟩ = some (.int .i64 x.ten) := hca 2 (by decide)
      have b2 : w.cell? ⟨qb, k * 14 + 2, none⟩ = some (.int .i64 x.ten) := hcb 2 (by decide)
      have a3 : w.cell? ⟨qa, k * 14 + 3, none⟩ = some (.int .i64 x.large) := hca 3 (by decide)
      have b3 : w.cell? ⟨qb, k * 14 + 3, none⟩ = some (.int .i64 x.large) := hcb 3 (by decide)
      have a4 : w.cell? ⟨qa, k * 14 + 4, none⟩ = some (.int .i64 x.floor) := hca 4 (by decide)
      have b4 : w.cell? ⟨qb, k * 14 + 4, none⟩ = some (.int .i64 x.floor) := hcb 4 (by decide)
      have a5 : w.cell? ⟨qa, k * 14 + 5, none⟩ = some (.int .i64 x.num) := hca 5 (by decide)
      have b5 : w.cell? ⟨qb, k * 14 + 5, none⟩ = some (.int .i64 x.num) := hcb 5 (by decide)
      have a6 : w.cell? ⟨qa, k * 14 + 6, none⟩ = some (.int .i64 x.den) := hca 6 (by decide)
      have b6 : w.cell? ⟨qb, k * 14 + 6, none⟩ = some (.int .i64 x.den) := hcb 6 (by decide)
      have a7 : w.cell? ⟨qa, k * 14 + 7, none⟩ = some (.int .i64 x.target) := hca 7 (by decide)
      have b7 : w.cell? ⟨qb, k * 14 + 7, none⟩ = some (.int .i64 x.target) := hcb 7 (by decide)
      have a8 : w.cell? ⟨qa, k * 14 + 8, none⟩ = some (.int .i64 x.maxAge) := hca 8 (by decide)
      have b8 : w.cell? ⟨qb, k * 14 + 8, none⟩ = some (.int .i64 x.maxAge) := hcb 8 (by decide)
      have a9 : w.cell? ⟨qa, k * 14 + 9, none⟩ = some (.int .i64 x.threads) := hca 9 (by decide)
      have b9 : w.cell? ⟨qb, k * 14 + 9, none⟩ = some (.int .i64 x.threads) := hcb 9 (by decide)
      have a10 : w.cell? ⟨qa, k * 14 + 10, none⟩ = some (.int .i64 x.slots) := hca 10 (by decide)
      have b10 : w.cell? ⟨qb, k * 14 + 10, none⟩ = some (.int .i64 x.slots) := hcb 10 (by decide)
      have a11 : w.cell? ⟨qa, k * 14 + 11, none⟩ = some (.int .i64 x.handles) := hca 11 (by decide)
      have b11 : w.cell? ⟨qb, k * 14 + 11, none⟩ = some (.int .i64 x.handles) := hcb 11 (by decide)
      have a12 : w.cell? ⟨qa, k * 14 + 12, none⟩ = some (.int .i64 x.buffer) := hca 12 (by decide)
      have b12 : w.cell? ⟨qb, k * 14 + 12, none⟩ = some (.int .i64 x.buffer) := hcb 12 (by decide)
      have a13 : w.cell? ⟨qa, k * 14 + 13, none⟩ = some (.int .i64 x.workers) := hca 13 (by decide)
      have b13 : w.cell? ⟨qb, k * 14 + 13, none⟩ = some (.int .i64 x.workers) := hcb 13 (by decide)
      clear hca hcb hx
      go_upto_region 6 with fail
      go_quiet (fail)
      go_wp2
      go_roundw
      case rel => exact ⟨k + 1, _, by omega, by go_num, rfl⟩
      case measure => simp [intOf]; omega
    · have hkI : ¬ (k : Int) < (l.length : Int) := by omega
      go_wp2
      go_ret
      exact ⟨rfl, below_drewN (Below.refl _ _) _⟩

/-- What is answered of c. -/
noncomputable def grl (c : Cfg) : List Cfg := open Classical in if c.Ok then near c 12 else []
theorem grl_len (c : Cfg) : (grl c).length ≤ 12 := by
  unfold grl
  split
  · exact near_len c 12
  · simp

theorem tGrid_any (c : Cfg) (w : World) : Calls Try.prog 8 #[cv c] w fun e w' => ∃ v, e = .returned v ∧ Crd w'.heap.size w' v (grl c) ∧ Below w.heap.size w w' := by
  by_cases hc : c.Ok
  · refine (tGrid_yes c hc w).mono fun e w' ⟨v, h1, h2, h3⟩ => ⟨v, h1, ?_, h3⟩
    unfold grl
    rw [if_pos hc]
    exact Crd.of h2
  · refine (tGrid_no c hc w).mono fun e w' ⟨h1, h3⟩ => ⟨_, h1, ?_, h3⟩
    unfold grl
    rw [if_neg hc]
    exact ⟨none, 0, rfl, fun i c h => by simp at h⟩

theorem r21Grid_any (c : Cfg) (w : World) : Calls Try.prog 9 #[cv c] w fun e w' => ∃ v, e = .returned v ∧ Crd w'.heap.size w' v (grl c) ∧ Below w.heap.size w w' := by
  by_cases hc : c.Ok
  · refine (r21Grid_yes c hc w).mono fun e w' ⟨v, h1, h2, h3⟩ => ⟨v, h1, ?_, h3⟩
    unfold grl
    rw [if_pos hc]
    exact Crd.of h2
  · refine (r21Grid_no c hc w).mono fun e w' ⟨h1, h3⟩ => ⟨_, h1, ?_, h3⟩
    unfold grl
    rw [if_neg hc]
    exact ⟨none, 0, rfl, fun i c h => by simp at h⟩

set_option maxHeartbeats 8000000 in
theorem grids_any (c : Cfg) (w : World) :
    Calls Try.prog 4 #[cv c] w fun e w' => e = .returned (.bool true) ∧ Below w.heap.size w w' := by
  have H0 : Hid (Cfd (w.alloc (.cells (ccells c) 28)) w.heap.size c) := Cfd.new w c
  have L0 : Hid (Below w.heap.size w (w.alloc (.cells (ccells c) 28))) := Below.alloc (Below.refl _ _) (Nat.le_refl _) _
  go_enter Try.func4, Try.ntmps4
  go_upto_region 1 with fail
  generalize (w.alloc (.cells (ccells c) 28)) = w0 at *
  have HK : Hid (∀ w1, Below w0.heap.size w0 w1 → ∀ j v, (ccells c)[j]? = some v → w1.cell? ⟨w.heap.size, j, none⟩ = some v) := fun w1 b1 j v hv => ((H0.out.below b1).cell j).trans hv
  have hB0 : Below w0.heap.size w0 w0.drew := below_drewN (Below.refl _ _) 1
  have HG1 : Hid (∀ w1, Calls Try.prog 8 #[cv c] w1 fun e w' => ∃ v, e = .returned v ∧ Crd w'.heap.size w' v (grl c) ∧ Below w1.heap.size w1 w') := fun w1 => tGrid_any c w1
  have HG2 : Hid (∀ w1, Calls Try.prog 9 #[cv c] w1 fun e w' => ∃ v, e = .returned v ∧ Crd w'.heap.size w' v (grl c) ∧ Below w1.heap.size w1 w') := fun w1 => r21Grid_any c w1
  have HSm : Hid (∀ (w3 w4 : World) v3 v4, Crd w3.heap.size w3 v3 (grl c) → Crd w4.heap.size w4 v4 (grl c) → Below w3.heap.size w3 w4 → Calls Try.prog 7 #[v3, v4] w4 fun e w' => e = .returned (.bool true) ∧ Below w4.heap.size w4 w') := fun w3 w4 v3 v4 h3 h4 b4 => sameCfgs_any w4.heap.size v3 v4 (grl c) w4 ((h3.below b4).mono b4.size) h4 (by have := grl_len c; omega)
  have k0 : w0.drew.cell? ⟨w.heap.size, 0, none⟩ = some (.int .i64 c.eden) := HK.out w0.drew hB0 0 _ rfl
  have k1 : w0.drew.cell? ⟨w.heap.size, 1, none⟩ = some (.int .i64 c.surv) := HK.out w0.drew hB0 1 _ rfl
  have k2 : w0.drew.cell? ⟨w.heap.size, 2, none⟩ = some (.int .i64 c.ten) := HK.out w0.drew hB0 2 _ rfl
  have k3 : w0.drew.cell? ⟨w.heap.size, 3, none⟩ = some (.int .i64 c.large) := HK.out w0.drew hB0 3 _ rfl
  have k4 : w0.drew.cell? ⟨w.heap.size, 4, none⟩ = some (.int .i64 c.floor) := HK.out w0.drew hB0 4 _ rfl
  have k5 : w0.drew.cell? ⟨w.heap.size, 5, none⟩ = some (.int .i64 c.num) := HK.out w0.drew hB0 5 _ rfl
  have k6 : w0.drew.cell? ⟨w.heap.size, 6, none⟩ = some (.int .i64 c.den) := HK.out w0.drew hB0 6 _ rfl
  have k7 : w0.drew.cell? ⟨w.heap.size, 7, none⟩ = some (.int .i64 c.target) := HK.out w0.drew hB0 7 _ rfl
  have k8 : w0.drew.cell? ⟨w.heap.size, 8, none⟩ = some (.int .i64 c.maxAge) := HK.out w0.drew hB0 8 _ rfl
  have k9 : w0.drew.cell? ⟨w.heap.size, 9, none⟩ = some (.int .i64 c.threads) := HK.out w0.drew hB0 9 _ rfl
  have k10 : w0.drew.cell? ⟨w.heap.size, 10, none⟩ = some (.int .i64 c.slots) := HK.out w0.drew hB0 10 _ rfl
  have k11 : w0.drew.cell? ⟨w.heap.size, 11, none⟩ = some (.int .i64 c.handles) := HK.out w0.drew hB0 11 _ rfl
  have k12 : w0.drew.cell? ⟨w.heap.size, 12, none⟩ = some (.int .i64 c.buffer) := HK.out w0.drew hB0 12 _ rfl
  have k13 : w0.drew.cell? ⟨w.heap.size, 13, none⟩ = some (.int .i64 c.workers) := HK.out w0.drew hB0 13 _ rfl
  go_region_held3 (fun w' => w'.cell? ⟨w.heap.size, 0, none⟩ = some (.int .i64 c.eden) ∧ w'.cell? ⟨w.heap.size, 1, none⟩ = some (.int .i64 c.surv) ∧ w'.cell? ⟨w.heap.size, 2, none⟩ = some (.int .i64 c.ten) ∧ w'.cell? ⟨w.heap.size, 3, none⟩ = some (.int .i64 c.large) ∧ w'.cell? ⟨w.heap.size, 4, none⟩ = some (.int .i64 c.floor) ∧ w'.cell? ⟨w.heap.size, 5, none⟩ = some (.int .i64 c.num) ∧ w'.cell? ⟨w.heap.size, 6, none⟩ = some (.int .i64 c.den) ∧ w'.cell? ⟨w.heap.size, 7, none⟩ = some (.int .i64 c.target) ∧ w'.cell? ⟨w.heap.size, 8, none⟩ = some (.int .i64 c.maxAge) ∧ w'.cell? ⟨w.heap.size, 9, none⟩ = some (.int .i64 c.threads) ∧ w'.cell? ⟨w.heap.size, 10, none⟩ = some (.int .i64 c.slots) ∧ w'.cell? ⟨w.heap.size, 11, none⟩ = some (.int .i64 c.handles) ∧ w'.cell? ⟨w.heap.size, 12, none⟩ = some (.int .i64 c.buffer) ∧ w'.cell? ⟨w.heap.size, 13, none⟩ = some (.int .i64 c.workers)) (first | (exact ⟨‹_›, ‹_›, ‹_›, ‹_›, ‹_›, ‹_›, ‹_›, ‹_›, ‹_›, ‹_›, ‹_›, ‹_›, ‹_›, ‹_›⟩) | go_keep) (first | (go_at_call 8; refine (HG1.out _).mono ?_; rintro e w3 ⟨v3, rfl, r3, b3⟩; have B3 : Below w0.heap.size w0 w3 := hB0.trans (b3.mono hB0.size); have m0 : w3.cell? ⟨w.heap.size, 0, none⟩ = some (.int .i64 c.eden) := HK.out w3 B3 0 _ rfl; have m1 : w3.cell? ⟨w.heap.size, 1, none⟩ = some (.int .i64 c.surv) := HK.out w3 B3 1 _ rfl; have m2 : w3.cell? ⟨w.heap.size, 2, none⟩ = some (.int .i64 c.ten) := HK.out w3 B3 2 _ rfl; have m3 : w3.cell? ⟨w.heap.size, 3, none⟩ = some (.int .i64 c.large) := HK.out w3 B3 3 _ rfl; have m4 : w3.cell? ⟨w.heap.size, 4, none⟩ = some (.int .i64 c.floor) := HK.out w3 B3 4 _ rfl; have m5 : w3.cell? ⟨w.heap.size, 5, none⟩ = some (.int .i64 c.num) := HK.out w3 B3 5 _ rfl; have m6 : w3.cell? ⟨w.heap.size, 6, none⟩ = some (.int .i64 c.den) := HK.out w3 B3 6 _ rfl; have m7 : w3.cell? ⟨w.heap.size, 7, none⟩ = some (.int .i64 c.target) := HK.out w3 B3 7 _ rfl; have m8 : w3.cell? ⟨w.heap.size, 8, none⟩ = some (.int .i64 c.maxAge) := HK.out w3 B3 8 _ rfl; have m9 : w3.cell? ⟨w.heap.size, 9, none⟩ = some (.int .i64 c.threads) := HK.out w3 B3 9 _ rfl; have m10 : w3.cell? ⟨w.heap.size, 10, none⟩ = some (.int .i64 c.slots) := HK.out w3 B3 10 _ rfl; have m11 : w3.cell? ⟨w.heap.size, 11, none⟩ = some (.int .i64 c.handles) := HK.out w3 B3 11 _ rfl; have m12 : w3.cell? ⟨w.heap.size, 12, none⟩ = some (.int .i64 c.buffer) := HK.out w3 B3 12 _ rfl; have m13 : w3.cell? ⟨w.heap.size, 13, none⟩ = some (.int .i64 c.workers) := HK.out w3 B3 13 _ rfl) | (go_at_call 9; refine (HG2.out _).mono ?_; rintro e w4 ⟨v4, rfl, r4, b4⟩; have B4 : Below w0.heap.size w0 w4 := B3.trans (b4.mono B3.size); have l0 : w4.cell? ⟨w.heap.size, 0, none⟩ = some (.int .i64 c.eden) := HK.out w4 B4 0 _ rfl; have l1 : w4.cell? ⟨w.heap.size, 1, none⟩ = some (.int .i64 c.surv) := HK.out w4 B4 1 _ rfl; have l2 : w4.cell? ⟨w.heap.size, 2, none⟩ = some (.int .i64 c.ten) := HK.out w4 B4 2 _ rfl; have l3 : w4.cell? ⟨w.heap.size, 3, none⟩ = some (.int .i64 c.large) := HK.out w4 B4 3 _ rfl; have l4 : w4.cell? ⟨w.heap.size, 4, none⟩ = some (.int .i64 c.floor) := HK.out w4 B4 4 _ rfl; have l5 : w4.cell? ⟨w.heap.size, 5, none⟩ = some (.int .i64 c.num) := HK.out w4 B4 5 _ rfl; have l6 : w4.cell? ⟨w.heap.size, 6, none⟩ = some (.int .i64 c.den) := HK.out w4 B4 6 _ rfl; have l7 : w4.cell? ⟨w.heap.size, 7, none⟩ = some (.int .i64 c.target) := HK.out w4 B4 7 _ rfl; have l8 : w4.cell? ⟨w.heap.size, 8, none⟩ = some (.int .i64 c.maxAge) := HK.out w4 B4 8 _ rfl; have l9 : w4.cell? ⟨w.heap.size, 9, none⟩ = some (.int .i64 c.threads) := HK.out w4 B4 9 _ rfl; have l10 : w4.cell? ⟨w.heap.size, 10, none⟩ = some (.int .i64 c.slots) := HK.out w4 B4 10 _ rfl; have l11 : w4.cell? ⟨w.heap.size, 11, none⟩ = some (.int .i64 c.handles) := HK.out w4 B4 11 _ rfl; have l12 : w4.cell? ⟨w.heap.size, 12, none⟩ = some (.int .i64 c.buffer) := HK.out w4 B4 12 _ rfl; have l13 : w4.cell? ⟨w.heap.size, 13, none⟩ = some (.int .i64 c.workers) := HK.out w4 B4 13 _ rfl) | (go_at_call 7; refine (HSm.out _ _ _ _ r3 r4 b4).mono ?_; rintro e w5 ⟨rfl, b5⟩; have B5 : Below w0.heap.size w0 w5 := B4.trans (b5.mono B4.size); have n0 : w5.cell? ⟨w.heap.size, 0, none⟩ = some (.int .i64 c.eden) := HK.out w5 B5 0 _ rfl; have n1 : w5.cell? ⟨w.heap.size, 1, none⟩ = some (.int .i64 c.surv) := HK.out w5 B5 1 _ rfl; have n2 : w5.cell? ⟨w.heap.size, 2, none⟩ = some (.int .i64 c.ten) := HK.out w5 B5 2 _ rfl; have n3 : w5.cell? ⟨w.heap.size, 3, none⟩ = some (.int .i64 c.large) := HK.out w5 B5 3 _ rfl; have n4 : w5.cell? ⟨w.heap.size, 4, none⟩ = some (.int .i64 c.floor) := HK.out w5 B5 4 _ rfl; have n5 : w5.cell? ⟨w.heap.size, 5, none⟩ = some (.int .i64 c.num) := HK.out w5 B5 5 _ rfl; have n6 : w5.cell? ⟨w.heap.size, 6, none⟩ = some (.int .i64 c.den) := HK.out w5 B5 6 _ rfl; have n7 : w5.cell? ⟨w.heap.size, 7, none⟩ = some (.int .i64 c.target) := HK.out w5 B5 7 _ rfl; have n8 : w5.cell? ⟨w.heap.size, 8, none⟩ = some (.int .i64 c.maxAge) := HK.out w5 B5 8 _ rfl; have n9 : w5.cell? ⟨w.heap.size, 9, none⟩ = some (.int .i64 c.threads) := HK.out w5 B5 9 _ rfl; have n10 : w5.cell? ⟨w.heap.size, 10, none⟩ = some (.int .i64 c.slots) := HK.out w5 B5 10 _ rfl; have n11 : w5.cell? ⟨w.heap.size, 11, none⟩ = some (.int .i64 c.handles) := HK.out w5 B5 11 _ rfl; have n12 : w5.cell? ⟨w.heap.size, 12, none⟩ = some (.int .i64 c.buffer) := HK.out w5 B5 12 _ rfl; have n13 : w5.cell? ⟨w.heap.size, 13, none⟩ = some (.int .i64 c.workers) := HK.out w5 B5 13 _ rfl))
  have HZ : Hid (Below w.heap.size w w5) := L0.out.trans (B5.mono L0.out.size)
  go_wp2
  go_ret
  exact ⟨rfl, HZ.out⟩

end Go.Proofs.Ytlbmlnmgbjhljaa
