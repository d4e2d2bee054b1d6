/-
  The document's arena: which configurations may be.
-/
import Derived.Test.YtlbmlnmgbjhljaaPC1
import Derived.Deep.CutRange
set_option linter.unusedVariables false
set_option maxRecDepth 20000
namespace Go.Proofs.Ytlbmlnmgbjhljaa
open Go.RowKit

theorem between_any (n lo hi : Int) (w : World) :
    Calls Try.prog 21 #[.int .i64 n, .int .i64 lo, .int .i64 hi] w fun e w' => e = .returned (.bool (decide (lo ≤ n ∧ n ≤ hi))) ∧ w = w' := by
  by_cases h1 : lo ≤ n
  · by_cases h2 : n ≤ hi
    · go_enter Try.func21, Try.ntmps21
      go_wp2
      go_ret
      exact ⟨by simp [h1, h2], rfl⟩
    · have h2' : decide (n ≤ hi) = false := decide_eq_false h2
      go_enter Try.func21, Try.ntmps21
      go_wp2
      go_ret
      exact ⟨by simp, rfl⟩
  · have h1' : decide (lo ≤ n) = false := decide_eq_false h1
    go_enter Try.func21, Try.ntmps21
    go_wp2
    go_ret
    exact ⟨by simp, rfl⟩

/-- P3.1, as one asks it. -/
def Cfg.Okd (c : Cfg) : Prop := ((64 ≤ c.eden ∧ c.eden ≤ 65536) ∧ (64 ≤ c.surv ∧ c.surv ≤ 65536) ∧ (64 ≤ c.ten ∧ c.ten ≤ 65536)) ∧ ((2 ≤ c.large ∧ c.large ≤ 65536) ∧ (0 ≤ c.floor ∧ c.floor ≤ 65536)) ∧ ((1 ≤ c.den) ∧ (c.den ≤ c.num ∧ c.num ≤ 65536)) ∧ ((1 ≤ c.target ∧ c.target ≤ 100) ∧ (1 ≤ c.maxAge ∧ c.maxAge ≤ 15)) ∧ ((1 ≤ c.threads ∧ c.threads ≤ 8) ∧ (1 ≤ c.slots ∧ c.slots ≤ 4096) ∧ (0 ≤ c.handles ∧ c.handles ≤ 1024)) ∧ (0 ≤ c.buffer ∧ c.buffer ≤ c.eden) ∧ (1 ≤ c.workers ∧ c.workers ≤ 8)

instance (c : Cfg) : Decidable c.Okd := by unfold Cfg.Okd; infer_instance

theorem Cfg.okd (c : Cfg) : c.Okd ↔ c.Ok := by
  unfold Cfg.Okd
  constructor
  · rintro ⟨⟨⟨a1, a2⟩, ⟨a3, a4⟩, a5, a6⟩, ⟨⟨b1, b2⟩, b3, b4⟩, ⟨d1, d2, d3⟩, ⟨⟨e1, e2⟩, e3, e4⟩, ⟨⟨f1, f2⟩, ⟨f3, f4⟩, f5, f6⟩, ⟨g1, g2⟩, h1, h2⟩
    exact ⟨a1, a2, a3, a4, a5, a6, b1, b2, b3, b4, d1, d2, d3, e1, e2, e3, e4, f1, f2, f3, f4, f5, f6, g1, g2, h1, h2⟩
  · rintro ⟨a1, a2, a3, a4, a5, a6, b1, b2, b3, b4, d1, d2, d3, e1, e2, e3, e4, f1, f2, f3, f4, f5, f6, g1, g2, h1, h2⟩
    exact ⟨⟨⟨a1, a2⟩, ⟨a3, a4⟩, a5, a6⟩, ⟨⟨b1, b2⟩, b3, b4⟩, ⟨d1, d2, d3⟩, ⟨⟨e1, e2⟩, e3, e4⟩, ⟨⟨f1, f2⟩, ⟨f3, f4⟩, f5, f6⟩, ⟨g1, g2⟩, h1, h2⟩

set_option maxHeartbeats 4000000 in
theorem rvalid_any (c : Cfg) (w : World) :
    Calls Try.prog 16 #[cv c] w fun e w' => e = .returned (.bool (decide c.Okd)) ∧ Below w.heap.size w w' := by
  have b0 : Below w.heap.size w (w.alloc (.cells (ccells c) 28)) := Below.alloc (Below.refl _ _) (Nat.le_refl _) _
  have k0 : (w.alloc (.cells (ccells c) 28)).cell? ⟨w.heap.size, 0, none⟩ = some (.int .i64 c.eden) := (Cfd.new w c).cell 0
  have k1 : (w.alloc (.cells (ccells c) 28)).cell? ⟨w.heap.size, 1, none⟩ = some (.int .i64 c.surv) := (Cfd.new w c).cell 1
  have k2 : (w.alloc (.cells (ccells c) 28)).cell? ⟨w.heap.size, 2, none⟩ = some (.int .i64 c.ten) := (Cfd.new w c).cell 2
  have k3 : (w.alloc (.cells (ccells c) 28)).cell? ⟨w.heap.size, 3, none⟩ = some (.int .i64 c.large) := (Cfd.new w c).cell 3
  have k4 : (w.alloc (.cells (ccells c) 28)).cell? ⟨w.heap.size, 4, none⟩ = some (.int .i64 c.floor) := (Cfd.new w c).cell 4
  have k5 : (w.alloc (.cells (ccells c) 28)).cell? ⟨w.heap.size, 5, none⟩ = some (.int .i64 c.num) := (Cfd.new w c).cell 5
  have k6 : (w.alloc (.cells (ccells c) 28)).cell? ⟨w.heap.size, 6, none⟩ = some (.int .i64 c.den) := (Cfd.new w c).cell 6
  have k7 : (w.alloc (.cells (ccells c) 28)).cell? ⟨w.heap.size, 7, none⟩ = some (.int .i64 c.target) := (Cfd.new w c).cell 7
  have k8 : (w.alloc (.cells (ccells c) 28)).cell? ⟨w.heap.size, 8, none⟩ = some (.int .i64 c.maxAge) := (Cfd.new w c).cell 8
  have k9 : (w.alloc (.cells (ccells c) 28)).cell? ⟨w.heap.size, 9, none⟩ = some (.int .i64 c.threads) := (Cfd.new w c).cell 9
  have k10 : (w.alloc (.cells (ccells c) 28)).cell? ⟨w.heap.size, 10, none⟩ = some (.int .i64 c.slots) := (Cfd.new w c).cell 10
  have k11 : (w.alloc (.cells (ccells c) 28)).cell? ⟨w.heap.size, 11, none⟩ = some (.int .i64 c.handles) := (Cfd.new w c).cell 11
  have k12 : (w.alloc (.cells (ccells c) 28)).cell? ⟨w.heap.size, 12, none⟩ = some (.int .i64 c.buffer) := (Cfd.new w c).cell 12
  have k13 : (w.alloc (.cells (ccells c) 28)).cell? ⟨w.heap.size, 13, none⟩ = some (.int .i64 c.workers) := (Cfd.new w c).cell 13
  have HB : Hid _ := b0
  clear b0
  go_enter Try.func16, Try.ntmps16
  go_upto_region 1 with fail
  generalize w.alloc (.cells (ccells c) 28) = w0 at *
  obtain ⟨B, hB⟩ : ∃ B, B = w.heap.size := ⟨_, rfl⟩
  rw [← hB] at k0 k1 k2 k3 k4 k5 k6 k7 k8 k9 k10 k11 k12 k13 ⊢
  clear hB
  go_cut [3] from 8 to 20 (fun v wc => v = .bool (decide ((64 ≤ c.eden ∧ c.eden ≤ 65536) ∧ (64 ≤ c.surv ∧ c.surv ≤ 65536) ∧ (64 ≤ c.ten ∧ c.ten ≤ 65536))) ∧ w0 = wc)
  case first =>
    by_cases h0 : (64 ≤ c.eden ∧ c.eden ≤ 65536)
    · have c0 := between_any c.eden 64 65536 w0
      rw [decide_eq_true h0] at c0
      go_wp2_with fail
      refine c0.mono ?_
      rintro e w1 ⟨rfl, rfl⟩
      clear c0
      by_cases h1 : (64 ≤ c.surv ∧ c.surv ≤ 65536)
      · have c1 := between_any c.surv 64 65536 w0
        rw [decide_eq_true h1] at c1
        go_wp2_with fail
        refine c1.mono ?_
        rintro e w1 ⟨rfl, rfl⟩
        clear c1
        by_cases h2 : (64 ≤ c.ten ∧ c.ten ≤ 65536)
        · have c2 := between_any c.ten 64 65536 w0
          rw [decide_eq_true h2] at c2
          go_wp2_with fail
          refine c2.mono ?_
          rintro e w1 ⟨rfl, rfl⟩
          clear c2
          go_wp2_with fail
          go_meet
          exact ⟨by simp [h0, h1, h2], rfl⟩
        · have c2 := between_any c.ten 64 65536 w0
          rw [decide_eq_false h2] at c2
          go_wp2_with fail
          refine c2.mono ?_
          rintro e w1 ⟨rfl, rfl⟩
          clear c2
          go_wp2_with fail
          go_meet
          exact ⟨by simp [h0, h1, h2], rfl⟩
      · have c1 := between_any c.surv 64 65536 w0
        rw [decide_eq_false h1] at c1
        go_wp2_with fail
        refine c1.mono ?_
        rintro e w1 ⟨rfl, rfl⟩
        clear c1
        go_wp2_with fail
        go_meet
        exact ⟨by simp [h0, h1], rfl⟩
    · have c0 := between_any c.eden 64 65536 w0
      rw [decide_eq_false h0] at c0
      go_wp2_with fail
      refine c0.mono ?_
      rintro e w1 ⟨rfl, rfl⟩
      clear c0
      go_wp2_with fail
      go_meet
      exact ⟨by simp [h0], rfl⟩
  case rest =>
  obtain ⟨rfl, rfl⟩ := hcut
  apply_assumption
  obtain ⟨q1, hq1⟩ : ∃ q, q = decide ((64 ≤ c.eden ∧ c.eden ≤ 65536) ∧ (64 ≤ c.surv ∧ c.surv ≤ 65536) ∧ (64 ≤ c.ten ∧ c.ten ≤ 65536)) := ⟨_, rfl⟩
  rw [← hq1]
  have HQ1 : Hid (q1 = _) := hq1
  clear hq1
  refine wp_seq_k ?_
  intro K hK
  go_cut [4] from 21 to 28 (fun v wc => v = .bool (decide ((2 ≤ c.large ∧ c.large ≤ 65536) ∧ (0 ≤ c.floor ∧ c.floor ≤ 65536))) ∧ w0 = wc)
  case first =>
    by_cases h0 : (2 ≤ c.large ∧ c.large ≤ 65536)
    · have c0 := between_any c.large 2 65536 w0
      rw [decide_eq_true h0] at c0
      go_wp2_with fail
      refine c0.mono ?_
      rintro e w1 ⟨rfl, rfl⟩
      clear c0
      by_cases h1 : (0 ≤ c.floor ∧ c.floor ≤ 65536)
      · have c1 := between_any c.floor 0 65536 w0
        rw [decide_eq_true h1] at c1
        go_wp2_with fail
        refine c1.mono ?_
        rintro e w1 ⟨rfl, rfl⟩
        clear c1
        go_wp2_with fail
        go_meet
        exact ⟨by simp [h0, h1], rfl⟩
      · have c1 := between_any c.floor 0 65536 w0
        rw [decide_eq_false h1] at c1
        go_wp2_with fail
        refine c1.mono ?_
        rintro e w1 ⟨rfl, rfl⟩
        clear c1
        go_wp2_with fail
        go_meet
        exact ⟨by simp [h0, h1], rfl⟩
    · have c0 := between_any c.large 2 65536 w0
      rw [decide_eq_false h0] at c0
      go_wp2_with fail
      refine c0.mono ?_
      rintro e w1 ⟨rfl, rfl⟩
      clear c0
      go_wp2_with fail
      go_meet
      exact ⟨by simp [h0], rfl⟩
  case rest =>
  obtain ⟨rfl, rfl⟩ := hcut
  apply hK
  clear hK K
  obtain ⟨q2, hq2⟩ : ∃ q, q = decide ((2 ≤ c.large ∧ c.large ≤ 65536) ∧ (0 ≤ c.floor ∧ c.floor ≤ 65536)) := ⟨_, rfl⟩
  rw [← hq2]
  have HQ2 : Hid (q2 = _) := hq2
  clear hq2
  refine wp_seq_k ?_
  intro K hK
  go_cut [5] from 29 to 43 (fun v wc => v = .bool (decide ((1 ≤ c.den) ∧ (c.den ≤ c.num ∧ c.num ≤ 65536))) ∧ w0 = wc)
  case first =>
    by_cases h0 : 1 ≤ c.den
    · by_cases h1 : c.den ≤ c.num
      · by_cases h2 : c.num ≤ 65536
        · go_wp2_with fail
          go_meet
          exact ⟨by simp [h0, h1, h2], rfl⟩
        · have h2' : decide (c.num ≤ 65536) = false := decide_eq_false h2
          go_wp2_with fail
          go_meet
          exact ⟨by simp [h0, h1, h2], rfl⟩
      · have h1' : decide (c.den ≤ c.num) = false := decide_eq_false h1
        go_wp2_with fail
        go_meet
        exact ⟨congrArg Value.bool (decide_eq_false (fun hh => by have := hh.2.1; omega)).symm, rfl⟩
    · have h0' : decide (1 ≤ c.den) = false := decide_eq_false h0
      go_wp2_with fail
      go_meet
      exact ⟨congrArg Value.bool (decide_eq_false (fun hh => by have := hh.1; omega)).symm, rfl⟩
  case rest =>
  obtain ⟨rfl, rfl⟩ := hcut
  apply hK
  clear hK K
  obtain ⟨q3, hq3⟩ : ∃ q, q = decide ((1 ≤ c.den) ∧ (c.den ≤ c.num ∧ c.num ≤ 65536)) := ⟨_, rfl⟩
  rw [← hq3]
  have HQ3 : Hid (q3 = _) := hq3
  clear hq3
  refine wp_seq_k ?_
  intro K hK
  go_cut [6] from 44 to 51 (fun v wc => v = .bool (decide ((1 ≤ c.target ∧ c.target ≤ 100) ∧ (1 ≤ c.maxAge ∧ c.maxAge ≤ 15))) ∧ w0 = wc)
  case first =>
    by_cases h0 : (1 ≤ c.target ∧ c.target ≤ 100)
    · have c0 := between_any c.target 1 100 w0
      rw [decide_eq_true h0] at c0
      go_wp2_with fail
      refine c0.mono ?_
      rintro e w1 ⟨rfl, rfl⟩
      clear c0
      by_cases h1 : (1 ≤ c.maxAge ∧ c.maxAge ≤ 15)
      · have c1 := between_any c.maxAge 1 15 w0
        rw [decide_eq_true h1] at c1
        go_wp2_with fail
        refine c1.mono ?_
        rintro e w1 ⟨rfl, rfl⟩
        clear c1
        go_wp2_with fail
        go_meet
        exact ⟨by simp [h0, h1], rfl⟩
      · have c1 := between_any c.maxAge 1 15 w0
        rw [decide_eq_false h1] at c1
        go_wp2_with fail
        refine c1.mono ?_
        rintro e w1 ⟨rfl, rfl⟩
        clear c1
        go_wp2_with fail
        go_meet
        exact ⟨by simp [h0, h1], rfl⟩
    · have c0 := between_any c.target 1 100 w0
      rw [decide_eq_false h0] at c0
      go_wp2_with fail
      refine c0.mono ?_
      rintro e w1 ⟨rfl, rfl⟩
      clear c0
      go_wp2_with fail
      go_meet
      exact ⟨by simp [h0], rfl⟩
  case rest =>
  obtain ⟨rfl, rfl⟩ := hcut
  apply hK
  clear hK K
  obtain ⟨q4, hq4⟩ : ∃ q, q = decide ((1 ≤ c.target ∧ c.target ≤ 100) ∧ (1 ≤ c.maxAge ∧ c.maxAge ≤ 15)) := ⟨_, rfl⟩
  rw [← hq4]
  have HQ4 : Hid (q4 = _) := hq4
  clear hq4
  refine wp_seq_k ?_
  intro K hK
  go_cut [7] from 52 to 64 (fun v wc => v = .bool (decide ((1 ≤ c.threads ∧ c.threads ≤ 8) ∧ (1 ≤ c.slots ∧ c.slots ≤ 4096) ∧ (0 ≤ c.handles ∧ c.handles ≤ 1024))) ∧ w0 = wc)
  case first =>
    by_cases h0 : (1 ≤ c.threads ∧ c.threads ≤ 8)
    · have c0 := between_any c.threads 1 8 w0
      rw [decide_eq_true h0] at c0
      go_wp2_with fail
      refine c0.mono ?_
      rintro e w1 ⟨rfl, rfl⟩
      clear c0
      by_cases h1 : (1 ≤ c.slots ∧ c.slots ≤ 4096)
      · have c1 := between_any c.slots 1 4096 w0
        rw [decide_eq_true h1] at c1
        go_wp2_with fail
        refine c1.mono ?_
        rintro e w1 ⟨rfl, rfl⟩
        clear c1
        by_cases h2 : (0 ≤ c.handles ∧ c.handles ≤ 1024)
        · have c2 := between_any c.handles 0 1024 w0
          rw [decide_eq_true h2] at c2
          go_wp2_with fail
          refine c2.mono ?_
          rintro e w1 ⟨rfl, rfl⟩
          clear c2
          go_wp2_with fail
          go_meet
          exact ⟨by simp [h0, h1, h2], rfl⟩
        · have c2 := between_any c.handles 0 1024 w0
          rw [decide_eq_false h2] at c2
          go_wp2_with fail
          refine c2.mono ?_
          rintro e w1 ⟨rfl, rfl⟩
          clear c2
          go_wp2_with fail
          go_meet
          exact ⟨by simp [h0, h1, h2], rfl⟩
      · have c1 := between_any c.slots 1 4096 w0
        rw [decide_eq_false h1] at c1
        go_wp2_with fail
        refine c1.mono ?_
        rintro e w1 ⟨rfl, rfl⟩
        clear c1
        go_wp2_with fail
        go_meet
        exact ⟨by simp [h0, h1], rfl⟩
    · have c0 := between_any c.threads 1 8 w0
      rw [decide_eq_false h0] at c0
      go_wp2_with fail
      refine c0.mono ?_
      rintro e w1 ⟨rfl, rfl⟩
      clear c0
      go_wp2_with fail
      go_meet
      exact ⟨by simp [h0], rfl⟩
  case rest =>
  obtain ⟨rfl, rfl⟩ := hcut
  apply hK
  clear hK K
  obtain ⟨q5, hq5⟩ : ∃ q, q = decide ((1 ≤ c.threads ∧ c.threads ≤ 8) ∧ (1 ≤ c.slots ∧ c.slots ≤ 4096) ∧ (0 ≤ c.handles ∧ c.handles ≤ 1024)) := ⟨_, rfl⟩
  rw [← hq5]
  have HQ5 : Hid (q5 = _) := hq5
  clear hq5
  have HK : Hid (decide c.Okd = (q1 && (q2 && (q3 && (q4 && (q5 && (decide (0 ≤ c.buffer ∧ c.buffer ≤ c.eden) && decide (1 ≤ c.workers ∧ c.workers ≤ 8)))))))) := by
    show _ = _
    rw [HQ1.out, HQ2.out, HQ3.out, HQ4.out, HQ5.out]
    unfold Cfg.Okd
    rw [Bool.eq_iff_iff]
    simp only [Bool.and_eq_true, decide_eq_true_eq]
    exact decide_eq_true_iff
  clear HQ1 HQ2 HQ3 HQ4 HQ5
  cases q1
  · clear k0 k1 k2 k3 k4 k5 k6 k7 k8 k9 k10 k11 k12 k13
    go_wp2
    go_ret
    exact ⟨by rw [HK.out]; rfl, HB.out⟩
  cases q2
  · clear k0 k1 k2 k3 k4 k5 k6 k7 k8 k9 k10 k11 k12 k13
    go_wp2
    go_ret
    exact ⟨by rw [HK.out]; rfl, HB.out⟩
  cases q3
  · clear k0 k1 k2 k3 k4 k5 k6 k7 k8 k9 k10 k11 k12 k13
    go_wp2
    go_ret
    exact ⟨by rw [HK.out]; rfl, HB.out⟩
  cases q4
  · clear k0 k1 k2 k3 k4 k5 k6 k7 k8 k9 k10 k11 k12 k13
    go_wp2
    go_ret
    exact ⟨by rw [HK.out]; rfl, HB.out⟩
  cases q5
  · clear k0 k1 k2 k3 k4 k5 k6 k7 k8 k9 k10 k11 k12 k13
    go_wp2
    go_ret
    exact ⟨by rw [HK.out]; rfl, HB.out⟩
  have c1 := between_any c.buffer 0 c.eden w0
  by_cases h1 : 0 ≤ c.buffer ∧ c.buffer ≤ c.eden
  · rw [decide_eq_true h1] at c1
    go_wp2_with fail
    refine c1.mono ?_
    rintro e w1 ⟨rfl, rfl⟩
    clear c1
    have c2 := between_any c.workers 1 8 w0
    by_cases h2 : 1 ≤ c.workers ∧ c.workers ≤ 8
    · rw [decide_eq_true h2] at c2
      go_wp2_with fail
      refine c2.mono ?_
      rintro e w1 ⟨rfl, rfl⟩
      clear c2
      go_wp2
      go_ret
      exact ⟨by rw [HK.out, decide_eq_true h1, decide_eq_true h2]; rfl, HB.out⟩
    · rw [decide_eq_false h2] at c2
      go_wp2_with fail
      refine c2.mono ?_
      rintro e w1 ⟨rfl, rfl⟩
      clear c2
      go_wp2
      go_ret
      exact ⟨by rw [HK.out, decide_eq_true h1, decide_eq_false h2]; rfl, HB.out⟩
  · rw [decide_eq_false h1] at c1
    go_wp2_with fail
    refine c1.mono ?_
    rintro e w1 ⟨rfl, rfl⟩
    clear c1
    go_wp2
    go_ret
    exact ⟨by rw [HK.out, decide_eq_false h1]; rfl, HB.out⟩
end Go.Proofs.Ytlbmlnmgbjhljaa
