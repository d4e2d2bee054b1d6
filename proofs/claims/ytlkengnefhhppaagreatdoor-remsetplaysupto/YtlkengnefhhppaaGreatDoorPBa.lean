import Derived.Test.YtlkengnefhhppaaGreatDoorPAb
import Derived.Deep.CutRange
import Derived.Test.YtlkengnefhhppaaGreatDoorPYa
import Derived.Test.YtlkengnefhhppaaGreatDoorPHa
set_option linter.unusedVariables false
set_option maxHeartbeats 8000000
set_option maxRecDepth 20000
namespace Go.Proofs.YtlkengnefhhppaaGreatDoor
open Go.RowKit
theorem between_any (n lo hi : Int) (w : World) :
  Calls Tryz.prog 160 #[.int .i64 n, .int .i64 lo, .int .i64 hi] w fun e w' => e = .returned (.bool (decide (lo ≤ n ∧ n ≤ hi))) ∧ w = w' := by
 by_cases h1 : lo ≤ n
 ·by_cases h2 : n ≤ hi
  ·go_enter Tryz.func160, Tryz.ntmps160
   go_wp2
   go_ret
   exact ⟨by simp [h1, h2], rfl⟩
  ·have h2' : decide (n ≤ hi) = false := decide_eq_false h2
   go_enter Tryz.func160, Tryz.ntmps160
   go_wp2
   go_ret
   exact ⟨by simp, rfl⟩
 ·have h1' : decide (lo ≤ n) = false := decide_eq_false h1
  go_enter Tryz.func160, Tryz.ntmps160
  go_wp2
  go_ret
  exact ⟨by simp, rfl⟩
def Cfg.Okd (c : Cfg) : Prop := ((64 ≤ c.eden ∧ c.eden ≤ 65536) ∧ (64 ≤ c.surv ∧ c.surv ≤ 65536) ∧ (64 ≤ c.ten ∧ c.ten ≤ 65536)) ∧ ((2 ≤ c.large ∧ c.large ≤ 65536) ∧ (0 ≤ c.floor ∧ c.floor ≤ 65536)) ∧ ((1 ≤ c.den) ∧ (c.den ≤ c.num ∧ c.num ≤ 65536)) ∧ ((1 ≤ c.target ∧ c.target ≤ 100) ∧ (1 ≤ c.maxAge ∧ c.maxAge ≤ 15)) ∧ ((1 ≤ c.threads ∧ c.threads ≤ 8) ∧ (1 ≤ c.slots ∧ c.slots ≤ 4096) ∧ (0 ≤ c.handles ∧ c.handles ≤ 1024)) ∧ (0 ≤ c.buffer ∧ c.buffer ≤ c.eden) ∧ (1 ≤ c.workers ∧ c.workers ≤ 8)
instance (c : Cfg) : Decidable c.Okd := by unfold Cfg.Okd; infer_instance
theorem Cfg.okd (c : Cfg) : c.Okd ↔ c.Ok := by
 unfold Cfg.Okd
 constructor
 ·rintro ⟨⟨⟨a1, a2⟩, ⟨a3, a4⟩, a5, a6⟩, ⟨⟨b1, b2⟩, b3, b4⟩, ⟨d1, d2, d3⟩, ⟨⟨e1, e2⟩, e3, e4⟩, ⟨⟨f1, f2⟩, ⟨f3, f4⟩, f5, f6⟩, ⟨g1, g2⟩, h1, h2⟩
  exact ⟨a1, a2, a3, a4, a5, a6, b1, b2, b3, b4, d1, d2, d3, e1, e2, e3, e4, f1, f2, f3, f4, f5, f6, g1, g2, h1, h2⟩
 ·rintro ⟨a1, a2, a3, a4, a5, a6, b1, b2, b3, b4, d1, d2, d3, e1, e2, e3, e4, f1, f2, f3, f4, f5, f6, g1, g2, h1, h2⟩
  exact ⟨⟨⟨a1, a2⟩, ⟨a3, a4⟩, a5, a6⟩, ⟨⟨b1, b2⟩, b3, b4⟩, ⟨d1, d2, d3⟩, ⟨⟨e1, e2⟩, e3, e4⟩, ⟨⟨f1, f2⟩, ⟨f3, f4⟩, f5, f6⟩, ⟨g1, g2⟩, h1, h2⟩
theorem rvalid_any (c : Cfg) (w : World) :
  Calls Tryz.prog 111 #[cv c] w fun e w' => e = .returned (.bool (decide c.Okd)) ∧ Below w.heap.size w w' := by
 have b0 : Below w.heap.size w (w.alloc (.cells (ccells c) 23)) := Below.alloc (Below.refl _ _) (Nat.le_refl _) _
 have k0 : (w.alloc (.cells (ccells c) 23)).cell? ⟨w.heap.size, 0, none⟩ = some (.int .i64 c.eden) := (Cfd.new w c).cell 0
 have k1 : (w.alloc (.cells (ccells c) 23)).cell? ⟨w.heap.size, 1, none⟩ = some (.int .i64 c.surv) := (Cfd.new w c).cell 1
 have k2 : (w.alloc (.cells (ccells c) 23)).cell? ⟨w.heap.size, 2, none⟩ = some (.int .i64 c.ten) := (Cfd.new w c).cell 2
 have k3 : (w.alloc (.cells (ccells c) 23)).cell? ⟨w.heap.size, 3, none⟩ = some (.int .i64 c.large) := (Cfd.new w c).cell 3
 have k4 : (w.alloc (.cells (ccells c) 23)).cell? ⟨w.heap.size, 4, none⟩ = some (.int .i64 c.floor) := (Cfd.new w c).cell 4
 have k5 : (w.alloc (.cells (ccells c) 23)).cell? ⟨w.heap.size, 5, none⟩ = some (.int .i64 c.num) := (Cfd.new w c).cell 5
 have k6 : (w.alloc (.cells (ccells c) 23)).cell? ⟨w.heap.size, 6, none⟩ = some (.int .i64 c.den) := (Cfd.new w c).cell 6
 have k7 : (w.alloc (.cells (ccells c) 23)).cell? ⟨w.heap.size, 7, none⟩ = some (.int .i64 c.target) := (Cfd.new w c).cell 7
 have k8 : (w.alloc (.cells (ccells c) 23)).cell? ⟨w.heap.size, 8, none⟩ = some (.int .i64 c.maxAge) := (Cfd.new w c).cell 8
 have k9 : (w.alloc (.cells (ccells c) 23)).cell? ⟨w.heap.size, 9, none⟩ = some (.int .i64 c.threads) := (Cfd.new w c).cell 9
 have k10 : (w.alloc (.cells (ccells c) 23)).cell? ⟨w.heap.size, 10, none⟩ = some (.int .i64 c.slots) := (Cfd.new w c).cell 10
 have k11 : (w.alloc (.cells (ccells c) 23)).cell? ⟨w.heap.size, 11, none⟩ = some (.int .i64 c.handles) := (Cfd.new w c).cell 11
 have k12 : (w.alloc (.cells (ccells c) 23)).cell? ⟨w.heap.size, 12, none⟩ = some (.int .i64 c.buffer) := (Cfd.new w c).cell 12
 have k13 : (w.alloc (.cells (ccells c) 23)).cell? ⟨w.heap.size, 13, none⟩ = some (.int .i64 c.workers) := (Cfd.new w c).cell 13
 have HB : Hid _ := b0
 clear b0
 go_enter Tryz.func111, Tryz.ntmps111
 go_upto_region 1 with fail
 generalize w.alloc (.cells (ccells c) 23) = w0 at *
 obtain ⟨B, hB⟩ : ∃ B, B = w.heap.size := ⟨_, rfl⟩
 rw [← hB] at k0 k1 k2 k3 k4 k5 k6 k7 k8 k9 k10 k11 k12 k13 ⊢
 clear hB
 go_cut [3] from 8 to 20 (fun v wc => v = .bool (decide ((64 ≤ c.eden ∧ c.eden ≤ 65536) ∧ (64 ≤ c.surv ∧ c.surv ≤ 65536) ∧ (64 ≤ c.ten ∧ c.ten ≤ 65536))) ∧ w0 = wc)
 case first =>
  by_cases h0 : (64 ≤ c.eden ∧ c.eden ≤ 65536)
  ·have c0 := between_any c.eden 64 65536 w0
   rw [decide_eq_true h0] at c0
   go_wp2_with fail
   refine c0.mono ?_
   rintro e w1 ⟨rfl, rfl⟩
   clear c0
   by_cases h1 : (64 ≤ c.surv ∧ c.surv ≤ 65536)
   ·have c1 := between_any c.surv 64 65536 w0
    rw [decide_eq_true h1] at c1
    go_wp2_with fail
    refine c1.mono ?_
    rintro e w1 ⟨rfl, rfl⟩
    clear c1
    by_cases h2 : (64 ≤ c.ten ∧ c.ten ≤ 65536)
    ·have c2 := between_any c.ten 64 65536 w0
     rw [decide_eq_true h2] at c2
     go_wp2_with fail
     refine c2.mono ?_
     rintro e w1 ⟨rfl, rfl⟩
     clear c2
     go_wp2_with fail
     go_meet
     exact ⟨by simp [h0, h1, h2], rfl⟩
    ·have c2 := between_any c.ten 64 65536 w0
     rw [decide_eq_false h2] at c2
     go_wp2_with fail
     refine c2.mono ?_
     rintro e w1 ⟨rfl, rfl⟩
     clear c2
     go_wp2_with fail
     go_meet
     exact ⟨by simp [h0, h1, h2], rfl⟩
   ·have c1 := between_any c.surv 64 65536 w0
    rw [decide_eq_false h1] at c1
    go_wp2_with fail
    refine c1.mono ?_
    rintro e w1 ⟨rfl, rfl⟩
    clear c1
    go_wp2_with fail
    go_meet
    exact ⟨by simp [h0, h1], rfl⟩
  ·have c0 := between_any c.eden 64 65536 w0
   rw [decide_eq_false h0] at c0
   go_wp2_with fail
   refine c0.mono ?_
   rintro e w1 ⟨rfl, rfl⟩
   clear c0
   go_wp2_with fail
   go_meet
   exact ⟨by simp [h0], rfl⟩
 case rest =>
 obtain ⟨rfl, rfl⟩ := hcut
 apply_assumption
 obtain ⟨q1, hq1⟩ : ∃ q, q = decide ((64 ≤ c.eden ∧ c.eden ≤ 65536) ∧ (64 ≤ c.surv ∧ c.surv ≤ 65536) ∧ (64 ≤ c.ten ∧ c.ten ≤ 65536)) := ⟨_, rfl⟩
 rw [← hq1]
 have HQ1 : Hid (q1 = _) := hq1
 clear hq1
 refine wp_seq_k ?_
 intro K hK
 go_cut [4] from 21 to 28 (fun v wc => v = .bool (decide ((2 ≤ c.large ∧ c.large ≤ 65536) ∧ (0 ≤ c.floor ∧ c.floor ≤ 65536))) ∧ w0 = wc)
 case first =>
  by_cases h0 : (2 ≤ c.large ∧ c.large ≤ 65536)
  ·have c0 := between_any c.large 2 65536 w0
   rw [decide_eq_true h0] at c0
   go_wp2_with fail
   refine c0.mono ?_
   rintro e w1 ⟨rfl, rfl⟩
   clear c0
   by_cases h1 : (0 ≤ c.floor ∧ c.floor ≤ 65536)
   ·have c1 := between_any c.floor 0 65536 w0
    rw [decide_eq_true h1] at c1
    go_wp2_with fail
    refine c1.mono ?_
    rintro e w1 ⟨rfl, rfl⟩
    clear c1
    go_wp2_with fail
    go_meet
    exact ⟨by simp [h0, h1], rfl⟩
   ·have c1 := between_any c.floor 0 65536 w0
    rw [decide_eq_false h1] at c1
    go_wp2_with fail
    refine c1.mono ?_
    rintro e w1 ⟨rfl, rfl⟩
    clear c1
    go_wp2_with fail
    go_meet
    exact ⟨by simp [h0, h1], rfl⟩
  ·have c0 := between_any c.large 2 65536 w0
   rw [decide_eq_false h0] at c0
   go_wp2_with fail
   refine c0.mono ?_
   rintro e w1 ⟨rfl, rfl⟩
   clear c0
   go_wp2_with fail
   go_meet
   exact ⟨by simp [h0], rfl⟩
 case rest =>
 obtain ⟨rfl, rfl⟩ := hcut
 apply hK
 clear hK K
 obtain ⟨q2, hq2⟩ : ∃ q, q = decide ((2 ≤ c.large ∧ c.large ≤ 65536) ∧ (0 ≤ c.floor ∧ c.floor ≤ 65536)) := ⟨_, rfl⟩
 rw [← hq2]
 have HQ2 : Hid (q2 = _) := hq2
 clear hq2
 refine wp_seq_k ?_
 intro K hK
 go_cut [5] from 29 to 43 (fun v wc => v = .bool (decide ((1 ≤ c.den) ∧ (c.den ≤ c.num ∧ c.num ≤ 65536))) ∧ w0 = wc)
 case first =>
  by_cases h0 : 1 ≤ c.den
  ·by_cases h1 : c.den ≤ c.num
   ·by_cases h2 : c.num ≤ 65536
    ·go_wp2_with fail
     go_meet
     exact ⟨by simp [h0, h1, h2], rfl⟩
    ·have h2' : decide (c.num ≤ 65536) = false := decide_eq_false h2
     go_wp2_with fail
     go_meet
     exact ⟨by simp [h0, h1, h2], rfl⟩
   ·have h1' : decide (c.den ≤ c.num) = false := decide_eq_false h1
    go_wp2_with fail
    go_meet
    exact ⟨congrArg Value.bool (decide_eq_false (fun hh => by have := hh.2.1; omega)).symm, rfl⟩
  ·have h0' : decide (1 ≤ c.den) = false := decide_eq_false h0
   go_wp2_with fail
   go_meet
   exact ⟨congrArg Value.bool (decide_eq_false (fun hh => by have := hh.1; omega)).symm, rfl⟩
 case rest =>
 obtain ⟨rfl, rfl⟩ := hcut
 apply hK
 clear hK K
 obtain ⟨q3, hq3⟩ : ∃ q, q = decide ((1 ≤ c.den) ∧ (c.den ≤ c.num ∧ c.num ≤ 65536)) := ⟨_, rfl⟩
 rw [← hq3]
 have HQ3 : Hid (q3 = _) := hq3
 clear hq3
 refine wp_seq_k ?_
 intro K hK
 go_cut [6] from 44 to 51 (fun v wc => v = .bool (decide ((1 ≤ c.target ∧ c.target ≤ 100) ∧ (1 ≤ c.maxAge ∧ c.maxAge ≤ 15))) ∧ w0 = wc)
 case first =>
  by_cases h0 : (1 ≤ c.target ∧ c.target ≤ 100)
  ·have c0 := between_any c.target 1 100 w0
   rw [decide_eq_true h0] at c0
   go_wp2_with fail
   refine c0.mono ?_
   rintro e w1 ⟨rfl, rfl⟩
   clear c0
   by_cases h1 : (1 ≤ c.maxAge ∧ c.maxAge ≤ 15)
   ·have c1 := between_any c.maxAge 1 15 w0
    rw [decide_eq_true h1] at c1
    go_wp2_with fail
    refine c1.mono ?_
    rintro e w1 ⟨rfl, rfl⟩
    clear c1
    go_wp2_with fail
    go_meet
    exact ⟨by simp [h0, h1], rfl⟩
   ·have c1 := between_any c.maxAge 1 15 w0
    rw [decide_eq_false h1] at c1
    go_wp2_with fail
    refine c1.mono ?_
    rintro e w1 ⟨rfl, rfl⟩
    clear c1
    go_wp2_with fail
    go_meet
    exact ⟨by simp [h0, h1], rfl⟩
  ·have c0 := between_any c.target 1 100 w0
   rw [decide_eq_false h0] at c0
   go_wp2_with fail
   refine c0.mono ?_
   rintro e w1 ⟨rfl, rfl⟩
   clear c0
   go_wp2_with fail
   go_meet
   exact ⟨by simp [h0], rfl⟩
 case rest =>
 obtain ⟨rfl, rfl⟩ := hcut
 apply hK
 clear hK K
 obtain ⟨q4, hq4⟩ : ∃ q, q = decide ((1 ≤ c.target ∧ c.target ≤ 100) ∧ (1 ≤ c.maxAge ∧ c.maxAge ≤ 15)) := ⟨_, rfl⟩
 rw [← hq4]
 have HQ4 : Hid (q4 = _) := hq4
 clear hq4
 refine wp_seq_k ?_
 intro K hK
 go_cut [7] from 52 to 64 (fun v wc => v = .bool (decide ((1 ≤ c.threads ∧ c.threads ≤ 8) ∧ (1 ≤ c.slots ∧ c.slots ≤ 4096) ∧ (0 ≤ c.handles ∧ c.handles ≤ 1024))) ∧ w0 = wc)
 case first =>
  by_cases h0 : (1 ≤ c.threads ∧ c.threads ≤ 8)
  ·have c0 := between_any c.threads 1 8 w0
   rw [decide_eq_true h0] at c0
   go_wp2_with fail
   refine c0.mono ?_
   rintro e w1 ⟨rfl, rfl⟩
   clear c0
   by_cases h1 : (1 ≤ c.slots ∧ c.slots ≤ 4096)
   ·have c1 := between_any c.slots 1 4096 w0
    rw [decide_eq_true h1] at c1
    go_wp2_with fail
    refine c1.mono ?_
    rintro e w1 ⟨rfl, rfl⟩
    clear c1
    by_cases h2 : (0 ≤ c.handles ∧ c.handles ≤ 1024)
    ·have c2 := between_any c.handles 0 1024 w0
     rw [decide_eq_true h2] at c2
     go_wp2_with fail
     refine c2.mono ?_
     rintro e w1 ⟨rfl, rfl⟩
     clear c2
     go_wp2_with fail
     go_meet
     exact ⟨by simp [h0, h1, h2], rfl⟩
    ·have c2 := between_any c.handles 0 1024 w0
     rw [decide_eq_false h2] at c2
     go_wp2_with fail
     refine c2.mono ?_
     rintro e w1 ⟨rfl, rfl⟩
     clear c2
     go_wp2_with fail
     go_meet
     exact ⟨by simp [h0, h1, h2], rfl⟩
   ·have c1 := between_any c.slots 1 4096 w0
    rw [decide_eq_false h1] at c1
    go_wp2_with fail
    refine c1.mono ?_
    rintro e w1 ⟨rfl, rfl⟩
    clear c1
    go_wp2_with fail
    go_meet
    exact ⟨by simp [h0, h1], rfl⟩
  ·have c0 := between_any c.threads 1 8 w0
   rw [decide_eq_false h0] at c0
   go_wp2_with fail
   refine c0.mono ?_
   rintro e w1 ⟨rfl, rfl⟩
   clear c0
   go_wp2_with fail
   go_meet
   exact ⟨by simp [h0], rfl⟩
 case rest =>
 obtain ⟨rfl, rfl⟩ := hcut
 apply hK
 clear hK K
 obtain ⟨q5, hq5⟩ : ∃ q, q = decide ((1 ≤ c.threads ∧ c.threads ≤ 8) ∧ (1 ≤ c.slots ∧ c.slots ≤ 4096) ∧ (0 ≤ c.handles ∧ c.handles ≤ 1024)) := ⟨_, rfl⟩
 rw [← hq5]
 have HQ5 : Hid (q5 = _) := hq5
 clear hq5
 have HK : Hid (decide c.Okd = (q1 && (q2 && (q3 && (q4 && (q5 && (decide (0 ≤ c.buffer ∧ c.buffer ≤ c.eden) && decide (1 ≤ c.workers ∧ c.workers ≤ 8)))))))) := by
  show _ = _
  rw [HQ1.out, HQ2.out, HQ3.out, HQ4.out, HQ5.out]
  unfold Cfg.Okd
  rw [Bool.eq_iff_iff]
  simp only [Bool.and_eq_true, decide_eq_true_eq]
  exact decide_eq_true_iff
 clear HQ1 HQ2 HQ3 HQ4 HQ5
 cases q1
 ·clear k0 k1 k2 k3 k4 k5 k6 k7 k8 k9 k10 k11 k12 k13
  go_wp2
  go_ret
  exact ⟨by rw [HK.out]; rfl, HB.out⟩
 cases q2
 ·clear k0 k1 k2 k3 k4 k5 k6 k7 k8 k9 k10 k11 k12 k13
  go_wp2
  go_ret
  exact ⟨by rw [HK.out]; rfl, HB.out⟩
 cases q3
 ·clear k0 k1 k2 k3 k4 k5 k6 k7 k8 k9 k10 k11 k12 k13
  go_wp2
  go_ret
  exact ⟨by rw [HK.out]; rfl, HB.out⟩
 cases q4
 ·clear k0 k1 k2 k3 k4 k5 k6 k7 k8 k9 k10 k11 k12 k13
  go_wp2
  go_ret
  exact ⟨by rw [HK.out]; rfl, HB.out⟩
 cases q5
 ·clear k0 k1 k2 k3 k4 k5 k6 k7 k8 k9 k10 k11 k12 k13
  go_wp2
  go_ret
  exact ⟨by rw [HK.out]; rfl, HB.out⟩
 have c1 := between_any c.buffer 0 c.eden w0
 by_cases h1 : 0 ≤ c.buffer ∧ c.buffer ≤ c.eden
 ·rw [decide_eq_true h1] at c1
  go_wp2_with fail
  refine c1.mono ?_
  rintro e w1 ⟨rfl, rfl⟩
  clear c1
  have c2 := between_any c.workers 1 8 w0
  by_cases h2 : 1 ≤ c.workers ∧ c.workers ≤ 8
  ·rw [decide_eq_true h2] at c2
   go_wp2_with fail
   refine c2.mono ?_
   rintro e w1 ⟨rfl, rfl⟩
   clear c2
   go_wp2
   go_ret
   exact ⟨by rw [HK.out, decide_eq_true h1, decide_eq_true h2]; rfl, HB.out⟩
  ·rw [decide_eq_false h2] at c2
   go_wp2_with fail
   refine c2.mono ?_
   rintro e w1 ⟨rfl, rfl⟩
   clear c2
   go_wp2
   go_ret
   exact ⟨by rw [HK.out, decide_eq_true h1, decide_eq_false h2]; rfl, HB.out⟩
 ·rw [decide_eq_false h1] at c1
  go_wp2_with fail
  refine c1.mono ?_
  rintro e w1 ⟨rfl, rfl⟩
  clear c1
  go_wp2
  go_ret
  exact ⟨by rw [HK.out, decide_eq_false h1]; rfl, HB.out⟩
structure Tok (c : Cfg) (x : Tps) : Prop where
 t10 : 1 ≤ x.t1
 t11 : x.t1 ≤ 1 + c.eden
 t20 : 1 + c.eden ≤ x.t2
 t21 : x.t2 ≤ 1 + c.eden + c.surv
 t30 : 1 + c.eden + c.surv ≤ x.t3
 t31 : x.t3 ≤ 1 + c.eden + c.surv + c.surv
 t40 : 1 + c.eden + c.surv + c.surv ≤ x.t4
 t41 : x.t4 ≤ 1 + c.eden + c.surv + c.surv + c.ten
def raf (c : Cfg) (g : Nat → Nat) (x : Tps) (sw : Bool) : Nat → Value
 | 0 => .int .i64 c.eden
 | 1 => .int .i64 c.surv
 | 2 => .int .i64 c.ten
 | 3 => .int .i64 c.large
 | 4 => .int .i64 c.floor
 | 5 => .int .i64 c.num
 | 6 => .int .i64 c.den
 | 7 => .int .i64 c.target
 | 8 => .int .i64 c.maxAge
 | 9 => .int .i64 c.threads
 | 10 => .int .i64 c.slots
 | 11 => .int .i64 c.handles
 | 12 => .int .i64 c.buffer
 | 13 => .int .i64 c.workers
 | 14 => .slice none 0 0
 | 15 => .slice (some ⟨g 1, 0, none⟩) c.eden.toNat c.eden.toNat
 | 16 => .slice (some ⟨g 2, 0, none⟩) c.surv.toNat c.surv.toNat
 | 17 => .slice (some ⟨g 3, 0, none⟩) c.surv.toNat c.surv.toNat
 | 18 => .slice (some ⟨g 4, 0, none⟩) c.ten.toNat c.ten.toNat
 | 19 => .int .i64 0
 | 20 => .int .i64 (x.t1 - 1)
 | 21 => .int .i64 (x.t2 - (1 + c.eden))
 | 22 => .int .i64 (x.t3 - (1 + c.eden + c.surv))
 | 23 => .int .i64 (x.t4 - (1 + c.eden + c.surv + c.surv))
 | _ => .int .i64 (if sw = true then 3 else 2)
def spn (c : Cfg) (s : Nat) : Nat := if s = 1 then c.eden.toNat else if s = 4 then c.ten.toNat else c.surv.toNat
structure Ra (w : World) (b : Nat) (g : Nat → Nat) (c : Cfg) (x : Tps) (sw : Bool) (ws : Nat → Int) : Prop where
 own : w.rowIs b 132 25 (raf c g x sw)
 row : ∀ s, 1 ≤ s → s ≤ 4 → w.rowIs (g s) 36 (spn c s) (fun j => .int .u64 (ws ((fst c s).toNat + j)))
 ok : c.Ok
 tk : Tok c x
 z0 : ws 0 = 0
 gd : ∀ s t, 1 ≤ s → s ≤ 4 → 1 ≤ t → t ≤ 4 → s ≠ t → g s ≠ g t
section
variable {w w' : World} {b : Nat} {g : Nat → Nat} {c : Cfg} {x : Tps} {sw : Bool} {ws : Nat → Int}
theorem Ra.below (h : Ra w b g c x sw ws) (l : Below w.heap.size w w') : Ra w' b g c x sw ws :=
 ⟨h.own.of_block (l.block _ h.own.lt), fun s h1 h4 => (h.row s h1 h4).of_block (l.block _ (h.row s h1 h4).lt), h.ok, h.tk, h.z0, h.gd⟩
theorem Ra.cell (h : Ra w b g c x sw ws) (j : Nat) (hj : j < 25) : w.cell? ⟨b, j, none⟩ = some (raf c g x sw j) := h.own.cell hj
end
theorem rspace_any (s : Int) (w : World) :
  Calls Tryz.prog 129 #[.int .i64 s] w fun e w' => e = .returned (.bool (decide (1 ≤ s ∧ s ≤ 4))) ∧ w = w' := by
 by_cases h1 : 1 ≤ s
 ·by_cases h2 : s ≤ 4
  ·go_enter Tryz.func129, Tryz.ntmps129
   go_wp2
   go_ret
   exact ⟨by simp [h1, h2], rfl⟩
  ·have h2' : decide (s ≤ 4) = false := decide_eq_false h2
   go_enter Tryz.func129, Tryz.ntmps129
   go_wp2
   go_ret
   exact ⟨by simp, rfl⟩
 ·have h1' : decide (1 ≤ s) = false := decide_eq_false h1
  go_enter Tryz.func129, Tryz.ntmps129
  go_wp2
  go_ret
  exact ⟨by simp, rfl⟩
theorem rto_any (b : Nat) (g : Nat → Nat) (c : Cfg) (x : Tps) (sw : Bool) (ws : Nat → Int) (w : World) (h : Ra w b g c x sw ws) :
  Calls Tryz.prog 71 #[.pointer (some ⟨b, 0, none⟩)] w fun e w' => e = .returned (.int .i64 (if sw = true then 2 else 3)) ∧ w = w' := by
 have k : w.cell? ⟨b, 24, none⟩ = some (.int .i64 (if sw = true then 3 else 2)) := h.cell 24 (by decide)
 clear h
 cases sw
 ·simp only [Bool.false_eq_true, if_false] at k ⊢
  go_enter Tryz.func71, Tryz.ntmps71
  go_wp2
  go_ret
  exact ⟨rfl, rfl⟩
 ·simp only [if_true] at k ⊢
  go_enter Tryz.func71, Tryz.ntmps71
  go_wp2
  go_ret
  exact ⟨rfl, rfl⟩
theorem Ra.wrd {w : World} {b : Nat} {g : Nat → Nat} {c : Cfg} {x : Tps} {sw : Bool} {ws : Nat → Int} (h : Ra w b g c x sw ws) (s : Nat) (h1 : 1 ≤ s) (h4 : s ≤ 4) : w.cell? ⟨b, 14 + s, none⟩ = some (.slice (some ⟨g s, 0, none⟩) (spn c s) (spn c s)) := by
 obtain rfl | rfl | rfl | rfl : s = 1 ∨ s = 2 ∨ s = 3 ∨ s = 4 := by omega
 ·exact h.cell 15 (by decide)
 ·exact h.cell 16 (by decide)
 ·exact h.cell 17 (by decide)
 ·exact h.cell 18 (by decide)
theorem Ra.usd {w : World} {b : Nat} {g : Nat → Nat} {c : Cfg} {x : Tps} {sw : Bool} {ws : Nat → Int} (h : Ra w b g c x sw ws) (s : Nat) (h1 : 1 ≤ s) (h4 : s ≤ 4) : w.cell? ⟨b, 19 + s, none⟩ = some (.int .i64 (x.top s - fst c s)) := by
 obtain rfl | rfl | rfl | rfl : s = 1 ∨ s = 2 ∨ s = 3 ∨ s = 4 := by omega
 ·exact h.cell 20 (by decide)
 ·exact h.cell 21 (by decide)
 ·exact h.cell 22 (by decide)
 ·exact h.cell 23 (by decide)
theorem spn_bhd {c : Cfg} (ok : c.Ok) (s : Nat) (h1 : 1 ≤ s) (h4 : s ≤ 4) : bhd c s = fst c s + spn c s ∧ spn c s ≤ 65536 ∧ 64 ≤ spn c s := by
 have := ok.e0; have := ok.e1; have := ok.s0; have := ok.s1; have := ok.t0; have := ok.t1
 obtain rfl | rfl | rfl | rfl : s = 1 ∨ s = 2 ∨ s = 3 ∨ s = 4 := by omega
 all_goals
  simp only [bhd, fst, spn]
  simp
  omega
theorem fst_succ {c : Cfg} (ok : c.Ok) (s : Nat) (h1 : 1 ≤ s) (h4 : s < 4) : fst c ((s : Int) + 1) = fst c s + spn c s := by
 have := ok.e0; have := ok.e1; have := ok.s0; have := ok.s1; have := ok.t0; have := ok.t1
 obtain rfl | rfl | rfl : s = 1 ∨ s = 2 ∨ s = 3 := by omega
 all_goals
  simp only [fst, spn]
  simp
  try omega
theorem fst_in {c : Cfg} (ok : c.Ok) (s : Int) : 0 ≤ fst c s ∧ fst c s ≤ 262144 := by
 have := ok.e0; have := ok.e1; have := ok.s0; have := ok.s1; have := ok.t0; have := ok.t1
 unfold fst
 repeat' split
 all_goals omega
theorem rbounds_any (b : Nat) (g : Nat → Nat) (c : Cfg) (x : Tps) (sw : Bool) (ws : Nat → Int) (s : Int) (w : World) (h : Ra w b g c x sw ws) :
  Calls Tryz.prog 100 #[.pointer (some ⟨b, 0, none⟩), .int .i64 s] w fun e w' => e = .returned (.tuple #[.int .i64 (fst c s), .int .i64 (bhd c s)]) ∧ Below w.heap.size w w' := by
 have hsp := rspace_any s w
 by_cases hs : 1 ≤ s ∧ s ≤ 4
 ·rw [decide_eq_true hs] at hsp
  obtain ⟨n, rfl⟩ : ∃ n : Nat, s = n := ⟨s.toNat, by omega⟩
  have hn1 : 1 ≤ n := by omega
  have hn4 : n ≤ 4 := by omega
  have hb := spn_bhd h.ok n hn1 hn4
  have hf := fst_in h.ok (n : Int)
  have kn := h.wrd n hn1 hn4
  have HR : Hid (Ra w b g c x sw ws) := h
  have HB : Hid (bhd c n = fst c n + spn c n) := hb.1
  have hb2 := hb.2.1
  clear h hs hb
  go_enter Tryz.func100, Tryz.ntmps100
  go_wp2_with fail
  refine hsp.mono ?_
  rintro e w1 ⟨rfl, rfl⟩
  clear hsp
  go_wp2
  go_loopw [6, 7] (fun v k wr => ∃ (j : Nat), 1 ≤ j ∧ j ≤ n ∧ k = .int .i64 j ∧ v = .int .i64 (fst c j) ∧ Hid (wr = w)) (fun _ k _ => n - (intOf k).toNat)
  case atStart => exact ⟨1, Nat.le_refl _, hn1, rfl, by simp [fst], rfl⟩
  case round =>
   obtain ⟨j, hj1, hjn, rfl, rfl, hw⟩ := hrel
   have hw' := hw.out
   subst hw'
   clear hw
   by_cases hlt : j < n
   ·have kj := HR.out.wrd j hj1 (by omega)
    have hbj := (spn_bhd HR.out.ok j hj1 (by omega)).2.1
    have hfj := fst_in HR.out.ok (j : Int)
    have HF : Hid (fst c ((j : Int) + 1) = fst c j + spn c j) := fst_succ HR.out.ok j hj1 (by omega)
    have hji : (j : Int) < n := by omega
    have hj5 : (j : Int) < 5 := by omega
    clear kn
    generalize hfe : fst c (j : Int) = fj at *
    generalize spn c j = sj at *
    go_wp2
    go_roundw
    case rel => exact ⟨j + 1, by omega, by omega, by go_num, by rw [show ((j + 1 : Nat) : Int) = (j : Int) + 1 by omega, HF.out], by first | exact True.intro | exact rfl⟩
    case measure => simp [intOf]; omega
   ·obtain rfl : j = n := by omega
    have hnk : ¬ (j : Int) < (j : Int) := by omega
    have hj5 : (j : Int) < 5 := by omega
    have HG : Hid (bhd c j = fst c j + spn c j) := HB.out
    generalize hfe : fst c (j : Int) = fj at *
    have HFJ : Hid (fst c (j : Int) = fj) := hfe
    clear hfe
    generalize spn c j = sj at *
    go_upto_region 8 with fail
    go_quiet (fail)
    go_wp2
    go_ret2
    exact ⟨by rw [HG.out, HFJ.out]; rfl, below_drewN (Below.refl _ _) _⟩
 ·rw [decide_eq_false hs] at hsp
  rw [fst_zero hs, bhd_zero hs]
  clear h hs
  go_enter Tryz.func100, Tryz.ntmps100
  go_wp2_with fail
  refine hsp.mono ?_
  rintro e w1 ⟨rfl, rfl⟩
  clear hsp
  go_wp2
  go_ret2
  exact ⟨rfl, Below.refl _ _⟩
theorem rsize_any (b : Nat) (g : Nat → Nat) (c : Cfg) (x : Tps) (sw : Bool) (ws : Nat → Int) (w : World) (h : Ra w b g c x sw ws) :
  Calls Tryz.prog 36 #[.pointer (some ⟨b, 0, none⟩)] w fun e w' => e = .returned (.int .i64 c.words) ∧ w' = w := by
 have HR : Hid (Ra w b g c x sw ws) := h
 clear h
 go_enter Tryz.func36, Tryz.ntmps36
 go_wp2
 go_loopw [3, 4] (fun v k wr => ∃ (j : Nat), 1 ≤ j ∧ j ≤ 5 ∧ k = .int .i64 j ∧ v = .int .i64 (if j = 5 then c.words else fst c j) ∧ Hid (wr = w)) (fun _ k _ => 5 - (intOf k).toNat)
 case atStart => exact ⟨1, Nat.le_refl _, by omega, rfl, by simp [fst], rfl⟩
 case round =>
  obtain ⟨j, hj1, hjn, rfl, rfl, hw⟩ := hrel
  have hw' := hw.out
  subst hw'
  clear hw
  by_cases hlt : j < 5
  ·have kj := HR.out.wrd j hj1 (by omega)
   have hbj := (spn_bhd HR.out.ok j hj1 (by omega))
   have hfj := fst_in HR.out.ok (j : Int)
   have hb2 := hbj.2.1
   have HF : Hid ((if j + 1 = 5 then c.words else fst c ((j + 1 : Nat) : Int)) = fst c j + spn c j) := by
    show _ = _
    by_cases h5 : j = 4
    ·subst h5
     rw [if_pos rfl, ← hbj.1]
     simp [bhd, Cfg.words]
    ·rw [if_neg (by omega), show ((j + 1 : Nat) : Int) = (j : Int) + 1 by omega]
     exact fst_succ HR.out.ok j hj1 (by omega)
   have hj5 : (j : Int) < 5 := by omega
   rw [if_neg (by omega)]
   clear hbj
   generalize fst c (j : Int) = fj at *
   generalize spn c j = sj at *
   go_wp2
   go_roundw
   case rel => exact ⟨j + 1, by omega, by omega, by go_num, by rw [HF.out], by first | exact True.intro | exact rfl⟩
   case measure => simp [intOf]; omega
  ·obtain rfl : j = 5 := by omega
   rw [if_pos rfl]
   generalize hcw : c.words = cw at *
   have HC : Hid (c.words = cw) := hcw
   clear hcw
   go_wp2
   go_ret
   exact ⟨by rw [HC.out]; rfl, rfl⟩
theorem rtop_any (b : Nat) (g : Nat → Nat) (c : Cfg) (x : Tps) (sw : Bool) (ws : Nat → Int) (s : Int) (w : World) (h : Ra w b g c x sw ws) :
  Calls Tryz.prog 130 #[.pointer (some ⟨b, 0, none⟩), .int .i64 s] w fun e w' => e = .returned (.int .i64 (x.top s)) ∧ Below w.heap.size w w' := by
 have hsp := rspace_any s w
 by_cases hs : 1 ≤ s ∧ s ≤ 4
 ·rw [decide_eq_true hs] at hsp
  have hb := rbounds_any b g c x sw ws s w h
  obtain ⟨n, rfl⟩ : ∃ n : Nat, s = n := ⟨s.toNat, by omega⟩
  have hf := fst_in h.ok (n : Int)
  have ht : fst c n ≤ x.top n ∧ x.top n ≤ 400000 := by
   have := h.ok.e1; have := h.ok.s1; have := h.ok.t1
   obtain ⟨a1, a2, a3, a4, a5, a6, a7, a8⟩ := h.tk
   obtain rfl | rfl | rfl | rfl : n = 1 ∨ n = 2 ∨ n = 3 ∨ n = 4 := by omega
   all_goals
    simp only [fst, Tps.top]
    simp
    omega
  have HR : Hid (Ra w b g c x sw ws) := h
  have hn1 : 1 ≤ n := by omega
  have hn4 : n ≤ 4 := by omega
  clear h hs
  generalize hfe : fst c (n : Int) = fn at *
  generalize bhd c (n : Int) = bn at *
  go_enter Tryz.func130, Tryz.ntmps130
  go_wp2_with fail
  refine hsp.mono ?_
  rintro e w1 ⟨rfl, rfl⟩
  clear hsp
  go_wp2_with fail
  refine hb.mono ?_
  rintro e w1 ⟨rfl, l1⟩
  have ku := (HR.out.below l1).usd n hn1 hn4
  rw [hfe] at ku
  have hn5 : (n : Int) < 5 := by omega
  have HL : Hid (Below w.heap.size w w1) := l1
  generalize hte : x.top (n : Int) = tn at *
  have HT : Hid (x.top (n : Int) = tn) := hte
  have he : fn + (tn - fn) = tn := by omega
  clear hb l1 hfe hte
  go_wp2
  go_ret
  exact ⟨by rw [HT.out]; first | rfl | rw [he] | simp, HL.out⟩
 ·rw [decide_eq_false hs] at hsp
  rw [top_zero hs]
  clear h hs
  go_enter Tryz.func130, Tryz.ntmps130
  go_wp2_with fail
  refine hsp.mono ?_
  rintro e w1 ⟨rfl, rfl⟩
  clear hsp
  go_wp2
  go_ret
  exact ⟨rfl, Below.refl _ _⟩
theorem rfree_any (b : Nat) (g : Nat → Nat) (c : Cfg) (x : Tps) (sw : Bool) (ws : Nat → Int) (s : Int) (w : World) (h : Ra w b g c x sw ws) :
  Calls Tryz.prog 141 #[.pointer (some ⟨b, 0, none⟩), .int .i64 s] w fun e w' => e = .returned (.int .i64 (bhd c s - x.top s)) ∧ Below w.heap.size w w' := by
 have hsp := rspace_any s w
 by_cases hs : 1 ≤ s ∧ s ≤ 4
 ·rw [decide_eq_true hs] at hsp
  obtain ⟨n, rfl⟩ : ∃ n : Nat, s = n := ⟨s.toNat, by omega⟩
  have hn1 : 1 ≤ n := by omega
  have hn4 : n ≤ 4 := by omega
  have hb := spn_bhd h.ok n hn1 hn4
  have ht : fst c n ≤ x.top n ∧ x.top n ≤ bhd c n := by
   have := h.ok.e1; have := h.ok.s1; have := h.ok.t1
   obtain ⟨a1, a2, a3, a4, a5, a6, a7, a8⟩ := h.tk
   obtain rfl | rfl | rfl | rfl : n = 1 ∨ n = 2 ∨ n = 3 ∨ n = 4 := by omega
   all_goals
    simp only [fst, bhd, Tps.top]
    simp
    omega
  have kw := h.wrd n hn1 hn4
  have ku := h.usd n hn1 hn4
  have HE : Hid (bhd c n - x.top n = (spn c n : Int) - (x.top n - fst c n)) := by show _ = _; omega
  have h1 : 0 ≤ x.top n - fst c n := by omega
  have h2 : x.top n - fst c n ≤ 65536 := by omega
  have h3 := hb.2.1
  have hn5 : (n : Int) < 5 := by omega
  clear h hs hb ht
  generalize x.top (n : Int) - fst c (n : Int) = un at *
  generalize spn c n = sn at *
  go_enter Tryz.func141, Tryz.ntmps141
  go_wp2_with fail
  refine hsp.mono ?_
  rintro e w1 ⟨rfl, rfl⟩
  clear hsp
  go_upto_region 3 with fail
  go_quiet (fail)
  go_wp2
  go_ret
  exact ⟨by rw [HE.out]; rfl, below_drewN (Below.refl _ _) _⟩
 ·rw [decide_eq_false hs] at hsp
  rw [bhd_zero hs, top_zero hs]
  clear h hs
  go_enter Tryz.func141, Tryz.ntmps141
  go_wp2_with fail
  refine hsp.mono ?_
  rintro e w1 ⟨rfl, rfl⟩
  clear hsp
  go_wp2
  go_ret
  exact ⟨rfl, Below.refl _ _⟩
abbrev rn (c : Cfg) : Array Value := #[.int .i64 c.eden, .int .i64 c.surv, .int .i64 c.ten, .int .i64 c.large, .int .i64 c.floor, .int .i64 c.num, .int .i64 c.den, .int .i64 c.target, .int .i64 c.maxAge, .int .i64 c.threads, .int .i64 c.slots, .int .i64 c.handles, .int .i64 c.buffer, .int .i64 c.workers, Value.slice none 0 0, Value.slice none 0 0, Value.slice none 0 0, Value.slice none 0 0, Value.slice none 0 0, .int .i64 0, .int .i64 0, .int .i64 0, .int .i64 0, .int .i64 0, .int .i64 2]
def ras (w : World) (b n s : Nat) : World := ((w.setCell ⟨b, 14 + s, none⟩ (.slice (some ⟨w.heap.size, 0, none⟩) n n)).alloc (.cells (madeCells #[.int .u64 0] n) 36)).drew
theorem ras_touch (w : World) (b n s : Nat) : Touch [b] w (ras w b n s) :=
 ((Touch.setCell w ⟨b, 14 + s, none⟩ _ (by simp)).trans (Touch.alloc [b] _ _)).trans (Touch.drewN [b] _ 1)
theorem Rh.below {w : World} {b n s B : Nat} (hb : B ≤ b) (hw : B ≤ w.heap.size) : Below B w (ras w b n s) :=
 (ras_touch w b n s).below hw (fun k hk => by simp at hk; omega)
structure Rh (w : World) (b cb : Nat) (g : Nat → Nat) (c : Cfg) (k : Nat) : Prop where
 own : w.rowIs b 132 25 (fun j => if 15 ≤ j ∧ j ≤ 18 ∧ 14 + k < j then Value.slice none 0 0 else raf c g (tops0 c) false j)
 row : ∀ s, 1 ≤ s → s ≤ k → w.rowIs (g s) 36 (spn c s) (fun _ => .int .u64 0)
 cf : Cfd w cb c
 ne : cb ≠ b
 gn : ∀ s, 1 ≤ s → s ≤ k → g s ≠ b
 gd : ∀ s t, 1 ≤ s → s ≤ k → 1 ≤ t → t ≤ k → s ≠ t → g s ≠ g t
 ge : ∀ s, 1 ≤ s → s ≤ k → cb ≤ g s
theorem Rh.step {w : World} {b cb : Nat} {g : Nat → Nat} {c : Cfg} {k : Nat} (h : Rh w b cb g c k) (hk : k < 4) :
  Rh (ras w b (spn c (k + 1)) (k + 1)) b cb (fun s => if s = k + 1 then w.heap.size else g s) c (k + 1) := by
 have hb := h.own.lt
 have hc := h.cf.lt
 refine ⟨?_, ?_, ?_, h.ne, ?_, ?_, fun s h1 h2 => ?_⟩
 ·refine World.rowIs.drew (World.rowIs.alloc ((h.own.set (14 + (k + 1)) _).congr (fun j hj => ?_)) _)
  by_cases e : j = 14 + (k + 1)
  ·subst e
   rw [if_pos rfl, if_neg (by omega)]
   obtain rfl | rfl | rfl | rfl : k = 0 ∨ k = 1 ∨ k = 2 ∨ k = 3 := by omega
   all_goals rfl
  ·rw [if_neg e]
   by_cases e2 : 15 ≤ j ∧ j ≤ 18 ∧ 14 + k < j
   ·rw [if_pos e2, if_pos (by omega)]
   ·rw [if_neg e2, if_neg (by omega)]
    obtain rfl | rfl | rfl | rfl : k = 0 ∨ k = 1 ∨ k = 2 ∨ k = 3 := by omega
    all_goals
     match j, hj with
     | 0, _ | 1, _ | 2, _ | 3, _ | 4, _ | 5, _ | 6, _ | 7, _ | 8, _ | 9, _ | 10, _ | 11, _ | 12, _ | 13, _ | 14, _ | 15, _ | 16, _ | 17, _ | 18, _ | 19, _ | 20, _ | 21, _ | 22, _ | 23, _ | 24, _ => first | rfl | (exfalso; omega)
     | j + 25, h => exact absurd (show j + 25 < 25 from h) (by omega)
 ·intro s h1 h2
  by_cases e : s = k + 1
  ·subst e
   rw [if_pos rfl]
   have h1 := World.rowIs_made (w.setCell ⟨b, 14 + (k + 1), none⟩ (.slice (some ⟨w.heap.size, 0, none⟩) (spn c (k + 1)) (spn c (k + 1)))) (.int .u64 0) (spn c (k + 1)) 36
   rw [show (w.setCell ⟨b, 14 + (k + 1), none⟩ (.slice (some ⟨w.heap.size, 0, none⟩) (spn c (k + 1)) (spn c (k + 1)))).heap.size = w.heap.size by simp [World.setCell]] at h1
   exact h1.drew
  ·rw [if_neg e]
   exact (((h.row s h1 (by omega)).setOther (h.gn s h1 (by omega)) _).alloc _).drew
 ·refine ⟨?_⟩
  rw [(ras_touch w b _ _).block cb hc (by simp; exact h.ne)]
  exact h.cf.at_
 ·intro s h1 h2
  by_cases e : s = k + 1
  ·subst e
   rw [if_pos rfl]; omega
  ·rw [if_neg e]
   exact h.gn s h1 (by omega)
 ·intro s t h1 h2 h3 h4 hst
  by_cases e : s = k + 1
  ·have e2 : t ≠ k + 1 := fun h => hst (e.trans h.symm)
   rw [if_pos e, if_neg e2]
   have := (h.row t h3 (by omega)).lt
   omega
  ·rw [if_neg e]
   by_cases e2 : t = k + 1
   ·rw [if_pos e2]
    have := (h.row s h1 (by omega)).lt
    omega
   ·rw [if_neg e2]
    exact h.gd s t h1 (by omega) h3 (by omega) hst
 ·by_cases e : s = k + 1
  ·rw [if_pos e]; omega
  ·rw [if_neg e]; exact h.ge s h1 (by omega)
theorem rnew_yes (c : Cfg) (h : c.Ok) (w : World) :
  Calls Tryz.prog 55 #[cv c] w fun e w' => ∃ b g, e = .returned (.tuple #[.pointer (some ⟨b, 0, none⟩), .int .i64 0]) ∧ Ra w' b g c (tops0 c) false (fun _ => 0) ∧ Below w.heap.size w w' ∧ w.heap.size ≤ b ∧ (∀ s, 1 ≤ s → s ≤ 4 → w.heap.size ≤ g s) := by
 have hv := rvalid_any c (w.alloc (.cells (ccells c) 23))
 rw [decide_eq_true (c.okd.2 h)] at hv
 have b0 : Below w.heap.size w (w.alloc (.cells (ccells c) 23)) := Below.alloc (Below.refl _ _) (Nat.le_refl _) _
 have f0 := Cfd.new w c
 have Hh : Hid c.Ok := h
 clear h
 go_enter Tryz.func55, Tryz.ntmps55
 go_wp2_with fail
 refine hv.mono ?_
 rintro e w1 ⟨rfl, b1⟩
 have b2 := b0.trans (b1.mono b0.size)
 have f1 := f0.below b1
 clear b0 b1 hv f0
 have k0 : w1.cell? ⟨w.heap.size, 0, none⟩ = some (.int .i64 c.eden) := f1.cell 0
 have k1 : w1.cell? ⟨w.heap.size, 1, none⟩ = some (.int .i64 c.surv) := f1.cell 1
 have k2 : w1.cell? ⟨w.heap.size, 2, none⟩ = some (.int .i64 c.ten) := f1.cell 2
 have k3 : w1.cell? ⟨w.heap.size, 3, none⟩ = some (.int .i64 c.large) := f1.cell 3
 have k4 : w1.cell? ⟨w.heap.size, 4, none⟩ = some (.int .i64 c.floor) := f1.cell 4
 have k5 : w1.cell? ⟨w.heap.size, 5, none⟩ = some (.int .i64 c.num) := f1.cell 5
 have k6 : w1.cell? ⟨w.heap.size, 6, none⟩ = some (.int .i64 c.den) := f1.cell 6
 have k7 : w1.cell? ⟨w.heap.size, 7, none⟩ = some (.int .i64 c.target) := f1.cell 7
 have k8 : w1.cell? ⟨w.heap.size, 8, none⟩ = some (.int .i64 c.maxAge) := f1.cell 8
 have k9 : w1.cell? ⟨w.heap.size, 9, none⟩ = some (.int .i64 c.threads) := f1.cell 9
 have k10 : w1.cell? ⟨w.heap.size, 10, none⟩ = some (.int .i64 c.slots) := f1.cell 10
 have k11 : w1.cell? ⟨w.heap.size, 11, none⟩ = some (.int .i64 c.handles) := f1.cell 11
 have k12 : w1.cell? ⟨w.heap.size, 12, none⟩ = some (.int .i64 c.buffer) := f1.cell 12
 have k13 : w1.cell? ⟨w.heap.size, 13, none⟩ = some (.int .i64 c.workers) := f1.cell 13
 go_upto_region 4 with fail
 clear k0 k1 k2 k3 k4 k5 k6 k7 k8 k9 k10 k11 k12 k13
 have hlt := f1.lt
 have h0 : Rh (w1.alloc (.cells (rn c) 132)) w1.heap.size w.heap.size (fun _ => 0) c 0 := by
  refine ⟨?_, fun s h1 h2 => by omega, f1.below (Below.alloc (Below.refl _ _) (Nat.le_refl _) _), by omega, fun s h1 h2 => by omega, fun s t h1 h2 => by omega, fun s h1 h2 => by omega⟩
  have h1 := World.rowIs_alloc w1 (rn c) 132 (fun j => if 15 ≤ j ∧ j ≤ 18 ∧ 14 + 0 < j then Value.slice none 0 0 else raf c (fun _ => 0) (tops0 c) false j) (by
   intro i hi
   match i, hi with
   | 0, _ | 1, _ | 2, _ | 3, _ | 4, _ | 5, _ | 6, _ | 7, _ | 8, _ | 9, _ | 10, _ | 11, _ | 12, _ | 13, _ | 14, _ | 15, _ | 16, _ | 17, _ | 18, _ | 19, _ | 24, _ => rfl
   | 20, _ | 21, _ | 22, _ | 23, _ => simp [raf, tops0]
   | j + 25, h => exact absurd (show j + 25 < 25 from h) (by omega))
  exact h1
 have b3 := Below.alloc b2 b2.size (.cells (rn c) 132)
 have hB := b2.size
 generalize hb : w1.heap.size = b at *
 generalize w1.alloc (.cells (rn c) 132) = v0 at *
 have B0 : Hid (Below w.heap.size w v0) := b3
 clear b3 b2 f1 hb
 obtain ⟨i0, hi0, hz0, hz1, hz2⟩ := info_parts Tryz.infoU64
 have hmk : ∀ (z : Int), 0 ≤ z → z ≤ 65536 → ∀ w, (Instr.makeSlice 39 (.int .i64 z) (.int .i64 z)).run Tryz.prog w = .ok (.slice (some ⟨w.heap.size, 0, none⟩) z.toNat z.toNat) (w.alloc (.cells (madeCells #[.int .u64 0] z.toNat) 36)) := fun z z0 z1 w => by
  have := run_make (P := Tryz.prog) w 39 36 i0 (.int .u64 0) Tryz.underlying39 hi0 hz0 .i64 .i64 z z z0 (Int.le_refl _) (by rw [hz2]; omega) (by omega)
  rw [hz1, Nat.mul_one] at this
  exact this
 have hme := hmk c.eden (by have := Hh.out.e0; omega) Hh.out.e1
 have hms := hmk c.surv (by have := Hh.out.s0; omega) Hh.out.s1
 have hmt := hmk c.ten (by have := Hh.out.t0; omega) Hh.out.t1
 have HB : Hid (w.heap.size ≤ b) := hB
 clear hi0 hz0 hz1 hz2 hmk hB
 have H0 : Hid (Rh v0 b w.heap.size (fun _ => 0) c 0) := h0
 have s0 : Hid (Rh (ras v0 b (spn c (0 + 1)) (0 + 1)) b w.heap.size (fun s => if s = 0 + 1 then v0.heap.size else (fun _ => 0) s) c (0 + 1)) := h0.step (by omega)
 have q0 : v0.cell? ⟨w.heap.size, 0, none⟩ = some (.int .i64 c.eden) := h0.cf.cell 0
 have hbl0 := h0.own.lt
 have hwl0 := h0.cf.lt
 have kn0 : v0.cell? ⟨b, 15, none⟩ = some (Value.slice none 0 0) := h0.own.cell (i := 15) (by decide)
 have kz0 := h0.own.frozen 15
 clear h0
 go_upto_region 4 with fail
 go_region
 clear q0 hbl0 hwl0 kn0 kz0
 have B1 : Hid (Below w.heap.size w (ras v0 b (spn c (0 + 1)) (0 + 1))) := B0.out.trans (Rh.below HB.out B0.out.size)
 have e0 : ((v0.setCell ⟨b, 15, none⟩ (.slice (some ⟨v0.heap.size, 0, none⟩) c.eden.toNat c.eden.toNat)).alloc (.cells (madeCells #[.int .u64 0] c.eden.toNat) 36)).drew = ras v0 b (spn c (0 + 1)) (0 + 1) := rfl
 rw [e0]
 obtain ⟨g1, hg1⟩ : ∃ g, g = (fun s => if s = 0 + 1 then v0.heap.size else (fun _ => 0) s) := ⟨_, rfl⟩
 rw [← hg1] at s0
 have h1 := s0.out
 clear e0 s0 hg1 H0
 generalize ras v0 b (spn c (0 + 1)) (0 + 1) = v1 at *
 have H1 : Hid (Rh v1 b w.heap.size g1 c 1) := h1
 have s1 : Hid (Rh (ras v1 b (spn c (1 + 1)) (1 + 1)) b w.heap.size (fun s => if s = 1 + 1 then v1.heap.size else g1 s) c (1 + 1)) := h1.step (by omega)
 have q1 : v1.cell? ⟨w.heap.size, 1, none⟩ = some (.int .i64 c.surv) := h1.cf.cell 1
 have hbl1 := h1.own.lt
 have hwl1 := h1.cf.lt
 have kn1 : v1.cell? ⟨b, 16, none⟩ = some (Value.slice none 0 0) := h1.own.cell (i := 16) (by decide)
 have kz1 := h1.own.frozen 16
 clear h1
 go_upto_region 5 with fail
 go_region
 clear q1 hbl1 hwl1 kn1 kz1
 have B2 : Hid (Below w.heap.size w (ras v1 b (spn c (1 + 1)) (1 + 1))) := B1.out.trans (Rh.below HB.out B1.out.size)
 have e1 : ((v1.setCell ⟨b, 16, none⟩ (.slice (some ⟨v1.heap.size, 0, none⟩) c.surv.toNat c.surv.toNat)).alloc (.cells (madeCells #[.int .u64 0] c.surv.toNat) 36)).drew = ras v1 b (spn c (1 + 1)) (1 + 1) := rfl
 rw [e1]
 obtain ⟨g2, hg2⟩ : ∃ g, g = (fun s => if s = 1 + 1 then v1.heap.size else g1 s) := ⟨_, rfl⟩
 rw [← hg2] at s1
 have h2 := s1.out
 clear e1 s1 hg2 H1
 generalize ras v1 b (spn c (1 + 1)) (1 + 1) = v2 at *
 have H2 : Hid (Rh v2 b w.heap.size g2 c 2) := h2
 have s2 : Hid (Rh (ras v2 b (spn c (2 + 1)) (2 + 1)) b w.heap.size (fun s => if s = 2 + 1 then v2.heap.size else g2 s) c (2 + 1)) := h2.step (by omega)
 have q2 : v2.cell? ⟨w.heap.size, 1, none⟩ = some (.int .i64 c.surv) := h2.cf.cell 1
 have hbl2 := h2.own.lt
 have hwl2 := h2.cf.lt
 have kn2 : v2.cell? ⟨b, 17, none⟩ = some (Value.slice none 0 0) := h2.own.cell (i := 17) (by decide)
 have kz2 := h2.own.frozen 17
 clear h2
 go_upto_region 6 with fail
 go_region
 clear q2 hbl2 hwl2 kn2 kz2
 have B3 : Hid (Below w.heap.size w (ras v2 b (spn c (2 + 1)) (2 + 1))) := B2.out.trans (Rh.below HB.out B2.out.size)
 have e2 : ((v2.setCell ⟨b, 17, none⟩ (.slice (some ⟨v2.heap.size, 0, none⟩) c.surv.toNat c.surv.toNat)).alloc (.cells (madeCells #[.int .u64 0] c.surv.toNat) 36)).drew = ras v2 b (spn c (2 + 1)) (2 + 1) := rfl
 rw [e2]
 obtain ⟨g3, hg3⟩ : ∃ g, g = (fun s => if s = 2 + 1 then v2.heap.size else g2 s) := ⟨_, rfl⟩
 rw [← hg3] at s2
 have h3 := s2.out
 clear e2 s2 hg3 H2
 generalize ras v2 b (spn c (2 + 1)) (2 + 1) = v3 at *
 have H3 : Hid (Rh v3 b w.heap.size g3 c 3) := h3
 have s3 : Hid (Rh (ras v3 b (spn c (3 + 1)) (3 + 1)) b w.heap.size (fun s => if s = 3 + 1 then v3.heap.size else g3 s) c (3 + 1)) := h3.step (by omega)
 have q3 : v3.cell? ⟨w.heap.size, 2, none⟩ = some (.int .i64 c.ten) := h3.cf.cell 2
 have hbl3 := h3.own.lt
 have hwl3 := h3.cf.lt
 have kn3 : v3.cell? ⟨b, 18, none⟩ = some (Value.slice none 0 0) := h3.own.cell (i := 18) (by decide)
 have kz3 := h3.own.frozen 18
 clear h3
 go_upto_region 7 with fail
 go_region
 clear q3 hbl3 hwl3 kn3 kz3
 have B4 : Hid (Below w.heap.size w (ras v3 b (spn c (3 + 1)) (3 + 1))) := B3.out.trans (Rh.below HB.out B3.out.size)
 have e3 : ((v3.setCell ⟨b, 18, none⟩ (.slice (some ⟨v3.heap.size, 0, none⟩) c.ten.toNat c.ten.toNat)).alloc (.cells (madeCells #[.int .u64 0] c.ten.toNat) 36)).drew = ras v3 b (spn c (3 + 1)) (3 + 1) := rfl
 rw [e3]
 obtain ⟨g4, hg4⟩ : ∃ g, g = (fun s => if s = 3 + 1 then v3.heap.size else g3 s) := ⟨_, rfl⟩
 rw [← hg4] at s3
 have h4 := s3.out
 clear e3 s3 hg4 H3
 generalize ras v3 b (spn c (3 + 1)) (3 + 1) = v4 at *
 have H4 : Hid (Rh v4 b w.heap.size g4 c 4) := h4
 clear h4 hme hms hmt
 go_wp2
 go_ret2
 refine ⟨b, g4, rfl, ⟨H4.out.own.congr (fun j hj => by rw [if_neg (by omega)]), fun s h1 h2 => H4.out.row s h1 h2, Hh.out, ?_, rfl, H4.out.gd⟩, B4.out, HB.out, H4.out.ge⟩
 obtain ⟨e0, e1, s0, s1, t0, t1, -⟩ := Hh.out
 constructor <;> simp only [tops0] <;> omega
theorem spc_none {c : Cfg} (ok : c.Ok) (i : Int) (h : ∀ s : Int, 1 ≤ s → s < 5 → ¬ (fst c s ≤ i ∧ i < bhd c s)) : spc c i = 0 := by
 have := ok.e0; have := ok.s0; have := ok.t0
 have h1 := h 1 (by decide) (by decide)
 have h2 := h 2 (by decide) (by decide)
 have h3 := h 3 (by decide) (by decide)
 have h4 := h 4 (by decide) (by decide)
 simp [fst, bhd] at h1 h2 h3 h4
 unfold spc
 repeat' split
 all_goals omega
theorem rspaceof_any (b : Nat) (g : Nat → Nat) (c : Cfg) (x : Tps) (sw : Bool) (ws : Nat → Int) (i : Int) (w : World) (h : Ra w b g c x sw ws) :
  Calls Tryz.prog 99 #[.pointer (some ⟨b, 0, none⟩), .int .i64 i] w fun e w' => e = .returned (.int .i64 (spc c i)) ∧ Below w.heap.size w w' := by
 have HB : Hid (∀ s w1, Below w.heap.size w w1 → Calls Tryz.prog 100 #[.pointer (some ⟨b, 0, none⟩), .int .i64 s] w1 fun e w' => e = .returned (.tuple #[.int .i64 (fst c s), .int .i64 (bhd c s)]) ∧ Below w1.heap.size w1 w') := fun s w1 l => rbounds_any b g c x sw ws s w1 (h.below l)
 have HO : Hid c.Ok := h.ok
 clear h
 go_enter Tryz.func99, Tryz.ntmps99
 go_wp2
 go_loopw [5] (fun v wr => ∃ s : Int, 1 ≤ s ∧ s ≤ 5 ∧ v = .int .i64 s ∧ Hid (∀ q : Int, 1 ≤ q → q < s → ¬ (fst c q ≤ i ∧ i < bhd c q)) ∧ Below w.heap.size w wr) (fun v _ => 5 - (intOf v).toNat)
 case atStart => exact ⟨1, by decide, by decide, rfl, fun q h1 h2 => by omega, Below.refl _ _⟩
 case round =>
  obtain ⟨s, h1, h5, rfl, HQ, bl⟩ := hrel
  by_cases h4 : s ≤ 4
  ·go_wp2_with fail
   refine (HB.out s _ bl).mono ?_
   rintro e w1 ⟨rfl, l1⟩
   have b1 : Hid (Below w.heap.size w w1) := bl.trans (l1.mono bl.size)
   clear bl l1
   have HI : Hid (fst c s ≤ i → i < bhd c s → spc c i = s) := spc_is HO.out i s h1 h4
   have HN : Hid (¬ (fst c s ≤ i ∧ i < bhd c s) → ∀ q : Int, 1 ≤ q → q < s + 1 → ¬ (fst c q ≤ i ∧ i < bhd c q)) := fun hn q q1 q2 => by
    by_cases e : q = s
    ·subst e; exact hn
    ·exact HQ.out q q1 (by omega)
   clear HQ
   generalize fst c s = F at *
   generalize bhd c s = H at *
   by_cases hF : F ≤ i
   ·by_cases hH : i < H
    ·go_wp2
     go_ret
     exact ⟨by rw [HI.out hF hH]; rfl, b1.out⟩
    ·have hH' : decide (i < H) = false := decide_eq_false hH
     have HX : Hid (∀ q : Int, 1 ≤ q → q < s + 1 → ¬ (fst c q ≤ i ∧ i < bhd c q)) := HN.out (fun hh => hH hh.2)
     go_wp2
     go_roundw
     case rel => exact ⟨s + 1, by omega, by omega, rfl, HX.out, b1.out⟩
     case measure => simp [intOf]; omega
   ·have hF' : decide (F ≤ i) = false := decide_eq_false hF
    have HX : Hid (∀ q : Int, 1 ≤ q → q < s + 1 → ¬ (fst c q ≤ i ∧ i < bhd c q)) := HN.out (fun hh => hF hh.1)
    go_wp2
    go_roundw
    case rel => exact ⟨s + 1, by omega, by omega, rfl, HX.out, b1.out⟩
    case measure => simp [intOf]; omega
  ·obtain rfl : s = 5 := by omega
   have e0 := spc_none HO.out i HQ.out
   have E0 : Hid (spc c i = 0) := e0
   clear e0 HQ
   go_wp2
   go_ret
   exact ⟨by rw [E0.out]; rfl, bl⟩
theorem Ra.wcell {w : World} {b : Nat} {g : Nat → Nat} {c : Cfg} {x : Tps} {sw : Bool} {ws : Nat → Int} (h : Ra w b g c x sw ws) (s d : Nat) (h1 : 1 ≤ s) (h4 : s ≤ 4) (hd : d < spn c s) : w.cell? ⟨g s, d, none⟩ = some (.int .u64 (ws ((fst c s).toNat + d))) := (h.row s h1 h4).cell hd
theorem spc_in {c : Cfg} (ok : c.Ok) (i : Int) : 0 ≤ spc c i ∧ spc c i ≤ 4 ∧ (spc c i ≠ 0 → fst c (spc c i) ≤ i ∧ i < bhd c (spc c i)) ∧ (spc c i = 0 → i ≤ 0 ∨ c.words ≤ i) := by
 have := ok.e0; have := ok.s0; have := ok.t0
 unfold spc Cfg.words
 repeat' split
 all_goals
  simp [fst, bhd]
  try omega
theorem rword_any (b : Nat) (g : Nat → Nat) (c : Cfg) (x : Tps) (sw : Bool) (ws : Nat → Int) (i : Int) (w : World) (h : Ra w b g c x sw ws) :
  Calls Tryz.prog 38 #[.pointer (some ⟨b, 0, none⟩), .int .i64 i] w fun e w' => e = .returned (.int .u64 (wat c ws i)) ∧ Below w.heap.size w w' := by
 have hsp := rspaceof_any b g c x sw ws i w h
 obtain ⟨q0, q4, q1, q2⟩ := spc_in h.ok i
 by_cases hz : spc c i = 0
 ·have e0 : wat c ws i = 0 := by
   unfold wat
   split
   ·next hi =>
    have := q2 hz
    rw [show i.toNat = 0 by omega]
    exact h.z0
   ·rfl
  rw [e0]
  rw [hz] at hsp
  clear h q0 q4 q1 q2 e0 hz
  go_enter Tryz.func38, Tryz.ntmps38
  go_wp2_with fail
  refine hsp.mono ?_
  rintro e w1 ⟨rfl, l1⟩
  clear hsp
  go_wp2
  go_ret
  exact ⟨rfl, l1⟩
 ·obtain ⟨n, hn⟩ : ∃ n : Nat, spc c i = n := ⟨(spc c i).toNat, by omega⟩
  rw [hn] at hsp q0 q4 q1 hz
  have hn1 : 1 ≤ n := by omega
  have hn4 : n ≤ 4 := by omega
  have hq := q1 hz
  have hs := spn_bhd h.ok n hn1 hn4
  have hf := fst_in h.ok (n : Int)
  obtain ⟨d, hd⟩ : ∃ d : Nat, i - fst c n = d := ⟨(i - fst c n).toNat, by omega⟩
  have hdl : d < spn c n := by omega
  have hwv : wat c ws i = ws ((fst c n).toNat + d) := by
   have hbw : bhd c n ≤ c.words := by
    have := h.ok.e0; have := h.ok.s0; have := h.ok.t0
    obtain rfl | rfl | rfl | rfl : n = 1 ∨ n = 2 ∨ n = 3 ∨ n = 4 := by omega
    all_goals
     simp [bhd, Cfg.words]
     try omega
   unfold wat
   rw [if_pos ⟨by omega, by omega⟩]
   congr 1
   omega
  obtain ⟨m, hm⟩ : ∃ m, m = ws ((fst c n).toNat + d) := ⟨_, rfl⟩
  rw [hwv, ← hm]
  have HM : Hid (m = ws ((fst c n).toNat + d)) := hm
  clear hm
  have HR : Hid (Ra w b g c x sw ws) := h
  have HBd : Hid (∀ w1, Below w.heap.size w w1 → Calls Tryz.prog 100 #[.pointer (some ⟨b, 0, none⟩), .int .i64 n] w1 fun e w' => e = .returned (.tuple #[.int .i64 (fst c n), .int .i64 (bhd c n)]) ∧ Below w1.heap.size w1 w') := fun w1 l => rbounds_any b g c x sw ws n w1 (h.below l)
  have hib : i < 400000 := by have := hs.1; have := hs.2.1; omega
  have hi0 : 0 ≤ i := by omega
  have hnz : ¬ (n : Int) = 0 := by omega
  have hn5 : (n : Int) < 5 := by omega
  have hsn := hs.2.1
  clear h hn hz q0 q4 q1 q2 hq hs hwv
  go_enter Tryz.func38, Tryz.ntmps38
  go_wp2_with fail
  refine hsp.mono ?_
  rintro e w1 ⟨rfl, l1⟩
  clear hsp
  go_wp2_with fail
  refine (HBd.out w1 l1).mono ?_
  rintro e w2 ⟨rfl, l2⟩
  have l3 := l1.trans (l2.mono l1.size)
  have k1 := (HR.out.below l3).wrd n hn1 hn4
  have k2 := (HR.out.below l3).wcell n d hn1 hn4 hdl
  have L3 : Hid (Below w.heap.size w w2) := l3
  clear l1 l2 l3 HBd
  rw [← HM.out] at k2
  clear HM
  generalize fst c (n : Int) = F at *
  generalize bhd c (n : Int) = H at *
  generalize spn c n = N at *
  have hdi : (d : Int) < N := by omega
  go_wp2
  go_ret
  exact ⟨rfl, L3.out⟩
end Go.Proofs.YtlkengnefhhppaaGreatDoor
namespace Go.Proofs.YtlkengnefhhppaaGreatDoor
open Go.RowKit Go.Shelf
abbrev rft (b : Nat) (g : Nat → Nat) : List Nat := [b, g 1, g 2, g 3, g 4]
theorem rft_g (b : Nat) (g : Nat → Nat) (s : Nat) (h1 : 1 ≤ s) (h4 : s ≤ 4) : g s ∈ rft b g := by
 obtain rfl | rfl | rfl | rfl : s = 1 ∨ s = 2 ∨ s = 3 ∨ s = 4 := by omega
 all_goals simp [rft]
section
variable {w w' : World} {b : Nat} {g : Nat → Nat} {c : Cfg} {x : Tps} {sw : Bool} {ws : Nat → Int}
theorem Ra.bg (h : Ra w b g c x sw ws) (s : Nat) (h1 : 1 ≤ s) (h4 : s ≤ 4) : b ≠ g s := by
 intro e
 obtain ⟨c1, k1, -, -⟩ := h.own
 obtain ⟨c2, k2, -, -⟩ := h.row s h1 h4
 rw [← e, k1] at k2
 simp only [Option.some.injEq, Obj.cells.injEq] at k2
 exact absurd k2.2.1 (by decide)
theorem Ra.keep (h : Ra w b g c x sw ws) (hk : ∀ q ∈ rft b g, w'.heap[q]? = w.heap[q]?) : Ra w' b g c x sw ws :=
 ⟨h.own.of_block (hk b (by simp [rft])), fun s h1 h4 => (h.row s h1 h4).of_block (hk _ (rft_g b g s h1 h4)), h.ok, h.tk, h.z0, h.gd⟩
theorem Ra.lt (h : Ra w b g c x sw ws) : ∀ q ∈ rft b g, q < w.heap.size := by
 intro q hq
 simp only [rft, List.mem_cons, List.not_mem_nil, or_false] at hq
 rcases hq with rfl | rfl | rfl | rfl | rfl
 ·exact h.own.lt
 ·exact (h.row 1 (by decide) (by decide)).lt
 ·exact (h.row 2 (by decide) (by decide)).lt
 ·exact (h.row 3 (by decide) (by decide)).lt
 ·exact (h.row 4 (by decide) (by decide)).lt
theorem Ra.touch {F : List Nat} (h : Ra w b g c x sw ws) (t : Touch F w w') (hF : ∀ q ∈ rft b g, q ∉ F) : Ra w' b g c x sw ws :=
 h.keep (fun q hq => t.block q (h.lt q hq) (hF q hq))
theorem fst_apart {c : Cfg} (ok : c.Ok) {s t d j : Nat} (s1 : 1 ≤ s) (s4 : s ≤ 4) (t1 : 1 ≤ t) (t4 : t ≤ 4) (hst : s ≠ t) (hd : d < spn c s) (hj : j < spn c t) : (fst c s).toNat + d ≠ (fst c t).toNat + j := by
 have := ok.e0; have := ok.s0; have := ok.t0
 obtain rfl | rfl | rfl | rfl : s = 1 ∨ s = 2 ∨ s = 3 ∨ s = 4 := by omega
 all_goals
  obtain rfl | rfl | rfl | rfl : t = 1 ∨ t = 2 ∨ t = 3 ∨ t = 4 := by omega
  all_goals first
   | exact absurd rfl hst
   | (simp [spn] at hd hj; simp [fst]; omega)
theorem Ra.set (h : Ra w b g c x sw ws) (s d : Nat) (v : Int) (h1 : 1 ≤ s) (h4 : s ≤ 4) (hd : d < spn c s) : Ra (w.setCell ⟨g s, d, none⟩ (.int .u64 v)) b g c x sw (upd ws ((fst c s).toNat + d) v) := by
 refine ⟨h.own.setOther (h.bg s h1 h4) _, fun t t1 t4 => ?_, h.ok, h.tk, ?_, h.gd⟩
 ·by_cases e : t = s
  ·subst e
   refine ((h.row t t1 t4).set d _).congr (fun j _ => ?_)
   unfold upd
   by_cases ej : j = d
   ·subst ej; rw [if_pos rfl, if_pos rfl]
   ·rw [if_neg ej, if_neg (by omega)]
  ·refine ((h.row t t1 t4).setOther (h.gd t s t1 t4 h1 h4 e) _).congr (fun j hj => ?_)
   unfold upd
   rw [if_neg (fst_apart h.ok t1 t4 h1 h4 e hj hd)]
 ·unfold upd
  have : 1 ≤ fst c s := by
   have := h.ok.e0; have := h.ok.s0
   obtain rfl | rfl | rfl | rfl : s = 1 ∨ s = 2 ∨ s = 3 ∨ s = 4 := by omega
   all_goals
    simp [fst]
    try omega
  rw [if_neg (by omega)]
  exact h.z0
theorem raf_top (c : Cfg) (g : Nat → Nat) (x : Tps) (sw : Bool) (s : Nat) (v : Int) (h1 : 1 ≤ s) (h4 : s ≤ 4) (j : Nat) (hj : j < 25) : (if j = 19 + s then Value.int .i64 (v - fst c s) else raf c g x sw j) = raf c g (x.put s v) sw j := by
 obtain rfl | rfl | rfl | rfl : s = 1 ∨ s = 2 ∨ s = 3 ∨ s = 4 := by omega
 all_goals
  match j, hj with
  | 0, _ | 1, _ | 2, _ | 3, _ | 4, _ | 5, _ | 6, _ | 7, _ | 8, _ | 9, _ | 10, _ | 11, _ | 12, _ | 13, _ | 14, _ | 15, _ | 16, _ | 17, _ | 18, _ | 19, _ | 20, _ | 21, _ | 22, _ | 23, _ | 24, _ => simp [raf, Tps.put, fst]
  | j + 25, h => exact absurd (show j + 25 < 25 from h) (by omega)
theorem Ra.put (h : Ra w b g c x sw ws) (s : Nat) (v : Int) (h1 : 1 ≤ s) (h4 : s ≤ 4) (v0 : fst c s ≤ v) (v1 : v ≤ bhd c s) : Ra (w.setCell ⟨b, 19 + s, none⟩ (.int .i64 (v - fst c s))) b g c (x.put s v) sw ws := by
 refine ⟨(h.own.set _ _).congr (fun j hj => raf_top c g x sw s v h1 h4 j hj), fun t t1 t4 => (h.row t t1 t4).setOther (fun e => h.bg t t1 t4 e.symm) _, h.ok, ?_, h.z0, h.gd⟩
 obtain ⟨a1, a2, a3, a4, a5, a6, a7, a8⟩ := h.tk
 obtain rfl | rfl | rfl | rfl : s = 1 ∨ s = 2 ∨ s = 3 ∨ s = 4 := by omega
 all_goals
  simp [fst] at v0
  simp [bhd] at v1
  constructor <;> simp [Tps.put] <;> omega
theorem Ra.swp (h : Ra w b g c x sw ws) : Ra (w.setCell ⟨b, 24, none⟩ (.int .i64 (if (!sw) = true then 3 else 2))) b g c x (!sw) ws := by
 refine ⟨(h.own.set _ _).congr (fun j hj => ?_), fun t t1 t4 => (h.row t t1 t4).setOther (fun e => h.bg t t1 t4 e.symm) _, h.ok, h.tk, h.z0, h.gd⟩
 match j, hj with
 | 0, _ | 1, _ | 2, _ | 3, _ | 4, _ | 5, _ | 6, _ | 7, _ | 8, _ | 9, _ | 10, _ | 11, _ | 12, _ | 13, _ | 14, _ | 15, _ | 16, _ | 17, _ | 18, _ | 19, _ | 20, _ | 21, _ | 22, _ | 23, _ | 24, _ => rfl
 | j + 25, h => exact absurd (show j + 25 < 25 from h) (by omega)
end
section
variable (b : Nat) (g : Nat → Nat) (c : Cfg) (x : Tps) (sw : Bool) (ws : Nat → Int)
theorem rsetWord_int (i v : Int) (h0 : 0 < i) (h1 : i < c.words) (w : World) (h : Ra w b g c x sw ws) :
  Calls Tryz.prog 76 #[.pointer (some ⟨b, 0, none⟩), .int .i64 i, .int .u64 v] w fun e w' => e = .returned (.bool true) ∧ Ra w' b g c x sw (upd ws i.toNat v) ∧ Touch (rft b g) w w' := by
 have hsp := rspaceof_any b g c x sw ws i w h
 obtain ⟨q0, q4, q1, q2⟩ := spc_in h.ok i
 have hz : spc c i ≠ 0 := fun e => by have := q2 e; omega
 obtain ⟨n, hn⟩ : ∃ n : Nat, spc c i = n := ⟨(spc c i).toNat, by omega⟩
 rw [hn] at hsp q0 q4 q1 hz
 have hn1 : 1 ≤ n := by omega
 have hn4 : n ≤ 4 := by omega
 have hq := q1 hz
 have hs := spn_bhd h.ok n hn1 hn4
 have hf := fst_in h.ok (n : Int)
 obtain ⟨d, hd⟩ : ∃ d : Nat, i - fst c n = d := ⟨(i - fst c n).toNat, by omega⟩
 have hdl : d < spn c n := by omega
 have HI : Hid (i.toNat = (fst c n).toNat + d) := by show _ = _; omega
 have HR : Hid (Ra w b g c x sw ws) := h
 have HBd : Hid (∀ w1, Below w.heap.size w w1 → Calls Tryz.prog 100 #[.pointer (some ⟨b, 0, none⟩), .int .i64 n] w1 fun e w' => e = .returned (.tuple #[.int .i64 (fst c n), .int .i64 (bhd c n)]) ∧ Below w1.heap.size w1 w') := fun w1 l => rbounds_any b g c x sw ws n w1 (h.below l)
 have hib : i < 400000 := by have := hs.1; have := hs.2.1; omega
 have hnz : ¬ (n : Int) = 0 := by omega
 have hn5 : (n : Int) < 5 := by omega
 have hsn := hs.2.1
 have hi0 : 0 ≤ i := by omega
 clear h hn hz q0 q4 q1 q2 hq hs h0 h1
 go_enter Tryz.func76, Tryz.ntmps76
 go_wp2_with fail
 refine hsp.mono ?_
 rintro e w1 ⟨rfl, l1⟩
 clear hsp
 go_wp2_with fail
 refine (HBd.out w1 l1).mono ?_
 rintro e w2 ⟨rfl, l2⟩
 have l3 := l1.trans (l2.mono l1.size)
 have hR2 := HR.out.below l3
 have k1 := hR2.wrd n hn1 hn4
 have k2 := hR2.wcell n d hn1 hn4 hdl
 have kz := (hR2.row n hn1 hn4).frozen d
 have HX : Hid (Ra (w2.setCell ⟨g n, d, none⟩ (.int .u64 v)) b g c x sw (upd ws i.toNat v)) := by
  show Ra _ _ _ _ _ _ _
  rw [HI.out]
  exact hR2.set n d v hn1 hn4 hdl
 have L3 : Hid (Touch (rft b g) w (w2.setCell ⟨g n, d, none⟩ (.int .u64 v))) := (Touch.of_below l3 _).trans (Touch.setCell _ _ _ (rft_g b g n hn1 hn4))
 clear l1 l2 l3 HBd hR2 HI
 generalize ws ((fst c n).toNat + d) = m at *
 generalize fst c (n : Int) = F at *
 generalize bhd c (n : Int) = H at *
 generalize spn c n = N at *
 have hdi : (d : Int) < N := by omega
 go_wp2
 go_ret
 exact ⟨rfl, HX.out, L3.out⟩
theorem rsetWord_yes (i : Nat) (v : Int) (h0 : 0 < i) (h1 : (i : Int) < c.words) (w : World) (h : Ra w b g c x sw ws) :
  Calls Tryz.prog 76 #[.pointer (some ⟨b, 0, none⟩), .int .i64 i, .int .u64 v] w fun e w' => e = .returned (.bool true) ∧ Ra w' b g c x sw (upd ws i v) ∧ Touch (rft b g) w w' := by
 have := rsetWord_int b g c x sw ws (i : Int) v (by omega) h1 w h
 rw [Int.toNat_natCast] at this
 exact this
theorem rswap_any (w : World) (h : Ra w b g c x sw ws) :
  Calls Tryz.prog 27 #[.pointer (some ⟨b, 0, none⟩)] w fun e w' => e = .returned (.tuple #[]) ∧ Ra w' b g c x (!sw) ws ∧ Touch (rft b g) w w' := by
 have ht := rto_any b g c x sw ws w h
 have HX : Hid (Ra (w.setCell ⟨b, 24, none⟩ (.int .i64 (if (!sw) = true then 3 else 2))) b g c x (!sw) ws) := h.swp
 have L : Hid (Touch (rft b g) w (w.setCell ⟨b, 24, none⟩ (.int .i64 (if (!sw) = true then 3 else 2)))) := Touch.setCell _ _ _ (by simp [rft])
 have e : (if sw = true then (2 : Int) else 3) = (if (!sw) = true then 3 else 2) := by cases sw <;> rfl
 rw [e] at ht
 have k : w.cell? ⟨b, 24, none⟩ = some (.int .i64 (if sw = true then 3 else 2)) := h.cell 24 (by decide)
 have kz := h.own.frozen 24
 clear h e
 generalize (if sw = true then (3 : Int) else 2) = u at *
 generalize (if (!sw) = true then (3 : Int) else 2) = v at *
 go_enter Tryz.func27, Tryz.ntmps27
 go_wp2_with fail
 refine ht.mono ?_
 rintro e w1 ⟨rfl, rfl⟩
 clear ht
 go_wp2
 go_returns
 exact ⟨rfl, HX.out, L.out⟩
theorem ryoung_any (i : Int) (w : World) (h : Ra w b g c x sw ws) :
  Calls Tryz.prog 114 #[.pointer (some ⟨b, 0, none⟩), .int .i64 i] w fun e w' => e = .returned (.bool (decide (spc c i = 1 ∨ spc c i = if sw = true then 3 else 2))) ∧ Below w.heap.size w w' := by
 have hs := rspaceof_any b g c x sw ws i w h
 have HR : Hid (Ra w b g c x sw ws) := h
 clear h
 generalize spc c i = s at *
 obtain ⟨u, hu⟩ : ∃ u : Int, u = if sw = true then 3 else 2 := ⟨_, rfl⟩
 rw [← hu]
 have HU : Hid (u = if sw = true then 3 else 2) := hu
 clear hu
 go_enter Tryz.func114, Tryz.ntmps114
 go_wp2_with fail
 refine hs.mono ?_
 rintro e w1 ⟨rfl, l1⟩
 have k : w1.cell? ⟨b, 24, none⟩ = some (.int .i64 (if sw = true then 3 else 2)) := (HR.out.below l1).cell 24 (by decide)
 rw [← HU.out] at k
 clear hs HR HU
 have L1 : Hid (Below w.heap.size w w1) := l1
 clear l1
 by_cases h1 : s = 1
 ·subst h1
  go_wp2
  go_ret
  exact ⟨by simp, L1.out⟩
 ·have h1' : decide (s = 1) = false := decide_eq_false h1
  go_wp2
  go_ret
  exact ⟨by simp; rfl, L1.out⟩
end
end Go.Proofs.YtlkengnefhhppaaGreatDoor
