/-
  PolicyLimits: its walk.
-/
import Derived.Test.YtcijdbhabbepaaaPL13
set_option linter.unusedVariables false
set_option maxRecDepth 20000
namespace Go.Proofs.Ytcijdbhabbepaaa.Po
open Go.RowKit Go.Proofs.Ytcijdbhabbepaaa.Kg

theorem plim_all (c : Cfg) (base : Int) : ∃ L : Int, (∀ w, Calls Try.prog 7 #[cv c, .int .i64 base] w fun e w' => e = .returned (.int .i64 L) ∧ Below w.heap.size w w') ∧ (∀ w, Calls Try.prog 9 #[cv c, .int .i64 base] w fun e w' => e = .returned (.int .i64 L) ∧ Below w.heap.size w w') := by
  by_cases h : c.Ok
  · exact ⟨clim c base, plimit_yes h base, rlimit_yes h base⟩
  · exact ⟨0, plimit_no h base, rlimit_no h base⟩

set_option maxHeartbeats 8000000 in
theorem limits_any (c : Cfg) (base words : Int) (w : World) : Calls Try.prog 3 #[cv c, .int .i64 base, .int .i64 words] w fun e w' => e = .returned (.bool true) ∧ Below w.heap.size w w' := by
  obtain ⟨L, hp, hr⟩ := plim_all c base
  obtain ⟨w0, hw0⟩ : ∃ x9, x9 = w.alloc (.cells (ccells c) 23) := ⟨_, rfl⟩
  have hb0 : Below w.heap.size w w0 := by rw [hw0]; exact Below.alloc (Below.refl _ _) (Nat.le_refl _) _
  have hC : Cfd w0 w.heap.size c := by rw [hw0]; exact Cfd.new w c
  have HB0 : Hid (Below w.heap.size w w0) := hb0
  have HC0 : Hid (Cfd w0 w.heap.size c) := hC
  have Hp : Hid (∀ w, Calls Try.prog 7 #[cv c, .int .i64 base] w fun e w' => e = .returned (.int .i64 L) ∧ Below w.heap.size w w') := hp
  have Hr : Hid (∀ w, Calls Try.prog 9 #[cv c, .int .i64 base] w fun e w' => e = .returned (.int .i64 L) ∧ Below w.heap.size w w') := hr
  obtain ⟨B, hB⟩ : ∃ B, B = decide (c.large ≤ words ∨ c.eden < words) := ⟨_, rfl⟩
  have HBb : Hid (B = decide (c.large ≤ words ∨ c.eden < words)) := hB
  clear hb0 hC hp hr hB
  go_enter Try.func3, Try.ntmps3
  go_upto_region 1 with fail
  rw [← hw0]
  clear hw0
  have k0 := cfd_cells HC0.out 0 (.int .i64 c.eden) rfl
  have k1 := cfd_cells HC0.out 1 (.int .i64 c.surv) rfl
  have k2 := cfd_cells HC0.out 2 (.int .i64 c.ten) rfl
  have k3 := cfd_cells HC0.out 3 (.int .i64 c.large) rfl
  have k4 := cfd_cells HC0.out 4 (.int .i64 c.floor) rfl
  have k5 := cfd_cells HC0.out 5 (.int .i64 c.num) rfl
  have k6 := cfd_cells HC0.out 6 (.int .i64 c.den) rfl
  have k7 := cfd_cells HC0.out 7 (.int .i64 c.target) rfl
  have k8 := cfd_cells HC0.out 8 (.int .i64 c.maxAge) rfl
  have k9 := cfd_cells HC0.out 9 (.int .i64 c.threads) rfl
  have k10 := cfd_cells HC0.out 10 (.int .i64 c.slots) rfl
  have k11 := cfd_cells HC0.out 11 (.int .i64 c.handles) rfl
  have k12 := cfd_cells HC0.out 12 (.int .i64 c.buffer) rfl
  have k13 := cfd_cells HC0.out 13 (.int .i64 c.workers) rfl
  have q := Hp.out w0
  go_wp2_with fail
  refine q.mono ?_
  rintro e9 w1 ⟨rfl, b1⟩
  have HB1 : Hid (Below w.heap.size w w1) := HB0.out.trans (b1.mono HB0.out.size)
  have HC1 : Hid (Cfd w1 w.heap.size c) := HC0.out.below b1
  clear q k0 k1 k2 k3 k4 k5 k6 k7 k8 k9 k10 k11 k12 k13 b1 HB0 HC0
  have k0 := cfd_cells HC1.out 0 (.int .i64 c.eden) rfl
  have k1 := cfd_cells HC1.out 1 (.int .i64 c.surv) rfl
  have k2 := cfd_cells HC1.out 2 (.int .i64 c.ten) rfl
  have k3 := cfd_cells HC1.out 3 (.int .i64 c.large) rfl
  have k4 := cfd_cells HC1.out 4 (.int .i64 c.floor) rfl
  have k5 := cfd_cells HC1.out 5 (.int .i64 c.num) rfl
  have k6 := cfd_cells HC1.out 6 (.int .i64 c.den) rfl
  have k7 := cfd_cells HC1.out 7 (.int .i64 c.target) rfl
  have k8 := cfd_cells HC1.out 8 (.int .i64 c.maxAge) rfl
  have k9 := cfd_cells HC1.out 9 (.int .i64 c.threads) rfl
  have k10 := cfd_cells HC1.out 10 (.int .i64 c.slots) rfl
  have k11 := cfd_cells HC1.out 11 (.int .i64 c.handles) rfl
  have k12 := cfd_cells HC1.out 12 (.int .i64 c.buffer) rfl
  have k13 := cfd_cells HC1.out 13 (.int .i64 c.workers) rfl
  have q := (pBig_any c words w1).mono fun e w' (h : _ ∧ _) => (⟨by rw [HBb.out]; exact h.1, h.2⟩ : e = .returned (.bool B) ∧ Below w1.heap.size w1 w')
  go_wp2_with fail
  refine q.mono ?_
  rintro e9 w2 ⟨rfl, b1⟩
  have HB2 : Hid (Below w.heap.size w w2) := HB1.out.trans (b1.mono HB1.out.size)
  have HC2 : Hid (Cfd w2 w.heap.size c) := HC1.out.below b1
  clear q k0 k1 k2 k3 k4 k5 k6 k7 k8 k9 k10 k11 k12 k13 b1 HB1 HC1
  have k0 := cfd_cells HC2.out 0 (.int .i64 c.eden) rfl
  have k1 := cfd_cells HC2.out 1 (.int .i64 c.surv) rfl
  have k2 := cfd_cells HC2.out 2 (.int .i64 c.ten) rfl
  have k3 := cfd_cells HC2.out 3 (.int .i64 c.large) rfl
  have k4 := cfd_cells HC2.out 4 (.int .i64 c.floor) rfl
  have k5 := cfd_cells HC2.out 5 (.int .i64 c.num) rfl
  have k6 := cfd_cells HC2.out 6 (.int .i64 c.den) rfl
  have k7 := cfd_cells HC2.out 7 (.int .i64 c.target) rfl
  have k8 := cfd_cells HC2.out 8 (.int .i64 c.maxAge) rfl
  have k9 := cfd_cells HC2.out 9 (.int .i64 c.threads) rfl
  have k10 := cfd_cells HC2.out 10 (.int .i64 c.slots) rfl
  have k11 := cfd_cells HC2.out 11 (.int .i64 c.handles) rfl
  have k12 := cfd_cells HC2.out 12 (.int .i64 c.buffer) rfl
  have k13 := cfd_cells HC2.out 13 (.int .i64 c.workers) rfl
  have q := Hr.out w2
  go_wp2_with fail
  refine q.mono ?_
  rintro e9 w3 ⟨rfl, b1⟩
  have HB3 : Hid (Below w.heap.size w w3) := HB2.out.trans (b1.mono HB2.out.size)
  have HC3 : Hid (Cfd w3 w.heap.size c) := HC2.out.below b1
  clear q k0 k1 k2 k3 k4 k5 k6 k7 k8 k9 k10 k11 k12 k13 b1 HB2 HC2
  have k0 := cfd_cells HC3.out 0 (.int .i64 c.eden) rfl
  have k1 := cfd_cells HC3.out 1 (.int .i64 c.surv) rfl
  have k2 := cfd_cells HC3.out 2 (.int .i64 c.ten) rfl
  have k3 := cfd_cells HC3.out 3 (.int .i64 c.large) rfl
  have k4 := cfd_cells HC3.out 4 (.int .i64 c.floor) rfl
  have k5 := cfd_cells HC3.out 5 (.int .i64 c.num) rfl
  have k6 := cfd_cells HC3.out 6 (.int .i64 c.den) rfl
  have k7 := cfd_cells HC3.out 7 (.int .i64 c.target) rfl
  have k8 := cfd_cells HC3.out 8 (.int .i64 c.maxAge) rfl
  have k9 := cfd_cells HC3.out 9 (.int .i64 c.threads) rfl
  have k10 := cfd_cells HC3.out 10 (.int .i64 c.slots) rfl
  have k11 := cfd_cells HC3.out 11 (.int .i64 c.handles) rfl
  have k12 := cfd_cells HC3.out 12 (.int .i64 c.buffer) rfl
  have k13 := cfd_cells HC3.out 13 (.int .i64 c.workers) rfl
  have q := (rbig_any c words w3).mono fun e w' (h : _ ∧ _) => (⟨by rw [HBb.out]; exact h.1, h.2⟩ : e = .returned (.bool B) ∧ Below w3.heap.size w3 w')
  go_wp2_with fail
  refine q.mono ?_
  rintro e9 w4 ⟨rfl, b1⟩
  have HB4 : Hid (Below w.heap.size w w4) := HB3.out.trans (b1.mono HB3.out.size)
  have HC4 : Hid (Cfd w4 w.heap.size c) := HC3.out.below b1
  clear q k0 k1 k2 k3 k4 k5 k6 k7 k8 k9 k10 k11 k12 k13 b1 HB3 HC3
  have q := known_any w4
  go_wp2_with fail
  refine q.mono ?_
  rintro e9 w5 ⟨rfl, b1⟩
  have HB5 : Hid (Below w.heap.size w w5) := HB4.out.trans (b1.mono HB4.out.size)
  clear q b1 HB4
  go_wp2
  go_ret
  exact ⟨rfl, HB5.out⟩

end Go.Proofs.Ytcijdbhabbepaaa.Po
