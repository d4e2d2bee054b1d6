/-
  among, kind, plain, Fits. (Printed by mkY9.py.)
-/
import Derived.Test.YtbgnagjhkfkekaaGreatDoorPYa
import Derived.Deep.CutRange
set_option linter.unusedVariables false
set_option maxRecDepth 20000
namespace Go.Proofs.YtbgnagjhkfkekaaGreatDoor
open Go.RowKit Go.Shelf

/-- A number brought among n. -/
def amg (a n : Int) : Int := (if a < 0 then -(a + 1) else a) % n

theorem amg_in (a n : Int) (h : 0 < n) : 0 ≤ amg a n ∧ amg a n < n := ⟨Int.emod_nonneg _ (by omega), Int.emod_lt_of_pos _ h⟩

theorem among_any (a n : Int) (ha : InI a) (hn : 0 < n ∧ n ≤ 1000) (w : World) :
    Calls Tryz.prog 21 #[.int .i64 a, .int .i64 n] w fun e w' => e = .returned (.int .i64 (amg a n)) ∧ w' = w := by
  obtain ⟨h1, h2⟩ := ha
  have hz : ¬ n = 0 := by omega
  by_cases h : a < 0
  · have hm : (-(a + 1)).tmod n = amg a n := by
      unfold amg
      rw [if_pos h, Int.tmod_eq_emod_of_nonneg (by omega)]
    have hm0 := amg_in a n hn.1
    go_enter Tryz.func21, Tryz.ntmps21
    go_wp2
    go_ret
    refine ⟨?_, rfl⟩
    first | rfl | (simp [hm])
  · have hm : a.tmod n = amg a n := by
      unfold amg
      rw [if_neg h, Int.tmod_eq_emod_of_nonneg (by omega)]
    have hm0 := amg_in a n hn.1
    go_enter Tryz.func21, Tryz.ntmps21
    go_wp2
    go_ret
    refine ⟨?_, rfl⟩
    first | rfl | (simp [hm])


set_option maxHeartbeats 8000000 in
theorem fits_any (c : Cfg) (w : World) :
    Calls Tryz.prog 19 #[cv c] w fun e w' => ∃ d : Bool, e = .returned (.bool d) ∧ (d = true ↔ c.Ok) ∧ Below w.heap.size w w' := by
  have b0 : Below w.heap.size w (w.alloc (.cells (ccells c) 23)) := Below.alloc (Below.refl _ _) (Nat.le_refl _) _
  have k0 : (w.alloc (.cells (ccells c) 23)).cell? ⟨w.heap.size, 0, none⟩ = some (.int .i64 c.eden) := (Cfd.new w c).cell 0
  have k1 : (w.alloc (.cells (ccells c) 23)).cell? ⟨w.heap.size, 1, none⟩ = some (.int .i64 c.surv) := (Cfd.new w c).cell 1
  have k2 : (w.alloc (.cells (ccells c) 23)).cell? ⟨w.heap.size, 2, none⟩ = some (.int .i64 c.ten) := (Cfd.new w c).cell 2
  have k3 : (w.alloc (.cells (ccells c) 23)).cell? ⟨w.heap.size, 3, none⟩ = some (.int .i64 c.large) := (Cfd.new w c).cell 3
  have k4 : (w.alloc (.cells (ccells c) 23)).cell? ⟨w.heap.size, 4, none⟩ = some (.int .i64 c.floor) := (Cfd.new w c).cell 4
  have k5 : (w.alloc (.cells (ccells c) 23)).cell? ⟨w.heap.size, 5, none⟩ = some (.int .i64 c.num) := (Cfd.new w c).cell 5
  have k6 : (w.alloc (.cells (ccells c) 23)).cell? ⟨w.heap.size, 6, none⟩ = some (.int .i64 c.den) := (Cfd.new w c).cell 6
  have k7 : (w.alloc (.cells (ccells c) 23)).cell? ⟨w.heap.size, 7, none⟩ = some (.int .i64 c.target) := (Cfd.new w c).cell 7
  have k8 : (w.alloc (.cells (ccells c) 23)).cell? ⟨w.heap.size, 8, none⟩ = some (.int .i64 c.maxAge) := (Cfd.new w c).cell 8
  have k9 : (w.alloc (.cells (ccells c) 23)).cell? ⟨w.heap.size, 9, none⟩ = some (.int .i64 c.threads) := (Cfd.new w c).cell 9
  have k10 : (w.alloc (.cells (ccells c) 23)).cell? ⟨w.heap.size, 10, none⟩ = some (.int .i64 c.slots) := (Cfd.new w c).cell 10
  have k11 : (w.alloc (.cells (ccells c) 23)).cell? ⟨w.heap.size, 11, none⟩ = some (.int .i64 c.handles) := (Cfd.new w c).cell 11
  have k12 : (w.alloc (.cells (ccells c) 23)).cell? ⟨w.heap.size, 12, none⟩ = some (.int .i64 c.buffer) := (Cfd.new w c).cell 12
  have k13 : (w.alloc (.cells (ccells c) 23)).cell? ⟨w.heap.size, 13, none⟩ = some (.int .i64 c.workers) := (Cfd.new w c).cell 13
  have HB : Hid _ := b0
  clear b0
  go_enter Tryz.func19, Tryz.ntmps19
  go_upto_region 1 with fail
  generalize w.alloc (.cells (ccells c) 23) = w0 at *
  obtain ⟨B, hB⟩ : ∃ B, B = w.heap.size := ⟨_, rfl⟩
  rw [← hB] at k0 k1 k2 k3 k4 k5 k6 k7 k8 k9 k10 k11 k12 k13 ⊢
  clear hB
  go_cut [3] from 7 to 34 (fun v wc => v = .bool (decide ((64 ≤ c.eden) ∧ (c.eden ≤ 65536) ∧ (64 ≤ c.surv) ∧ (c.surv ≤ 65536) ∧ (64 ≤ c.ten) ∧ (c.ten ≤ 65536))) ∧ w0 = wc)
  case first =>
    by_cases h0 : 64 ≤ c.eden
    · by_cases h1 : c.eden ≤ 65536
      · by_cases h2 : 64 ≤ c.surv
        · by_cases h3 : c.surv ≤ 65536
          · by_cases h4 : 64 ≤ c.ten
            · by_cases h5 : c.ten ≤ 65536
              · go_wp2_with fail
                go_meet
                exact ⟨congrArg Value.bool (decide_eq_true (by omega)).symm, rfl⟩
              · have g5 : decide (c.ten ≤ 65536) = false := by simp only [decide_eq_false_iff_not]; exact h5
                go_wp2_with fail
                go_meet
                exact ⟨congrArg Value.bool (decide_eq_false (by omega)).symm, rfl⟩
            · have g4 : decide (64 ≤ c.ten) = false := by simp only [decide_eq_false_iff_not]; exact h4
              go_wp2_with fail
              go_meet
              exact ⟨congrArg Value.bool (decide_eq_false (by omega)).symm, rfl⟩
          · have g3 : decide (c.surv ≤ 65536) = false := by simp only [decide_eq_false_iff_not]; exact h3
            go_wp2_with fail
            go_meet
            exact ⟨congrArg Value.bool (decide_eq_false (by omega)).symm, rfl⟩
        · have g2 : decide (64 ≤ c.surv) = false := by simp only [decide_eq_false_iff_not]; exact h2
          go_wp2_with fail
          go_meet
          exact ⟨congrArg Value.bool (decide_eq_false (by omega)).symm, rfl⟩
      · have g1 : decide (c.eden ≤ 65536) = false := by simp only [decide_eq_false_iff_not]; exact h1
        go_wp2_with fail
        go_meet
        exact ⟨congrArg Value.bool (decide_eq_false (by omega)).symm, rfl⟩
    · have g0 : decide (64 ≤ c.eden) = false := by simp only [decide_eq_false_iff_not]; exact h0
      go_wp2_with fail
      go_meet
      exact ⟨congrArg Value.bool (decide_eq_false (by omega)).symm, rfl⟩
  case rest =>
  obtain ⟨rfl, rfl⟩ := hcut
  apply_assumption
  obtain ⟨q0, hq0⟩ : ∃ q, q = decide ((64 ≤ c.eden) ∧ (c.eden ≤ 65536) ∧ (64 ≤ c.surv) ∧ (c.surv ≤ 65536) ∧ (64 ≤ c.ten) ∧ (c.ten ≤ 65536)) := ⟨_, rfl⟩
  rw [← hq0]
  have HQ0 : Hid (q0 = _) := hq0
  clear hq0
  refine wp_seq_k ?_
  intro K hK
  go_cut [4] from 35 to 64 (fun v wc => v = .bool (decide ((2 ≤ c.large) ∧ (c.large ≤ 65536) ∧ (0 ≤ c.floor) ∧ (c.floor ≤ 65536) ∧ (0 ≤ c.buffer) ∧ (c.buffer ≤ c.eden))) ∧ w0 = wc)
  case first =>
    by_cases h0 : 2 ≤ c.large
    · by_cases h1 : c.large ≤ 65536
      · by_cases h2 : 0 ≤ c.floor
        · by_cases h3 : c.floor ≤ 65536
          · by_cases h4 : 0 ≤ c.buffer
            · by_cases h5 : c.buffer ≤ c.eden
              · go_wp2_with fail
                go_meet
                exact ⟨congrArg Value.bool (decide_eq_true (by omega)).symm, rfl⟩
              · have g5 : decide (c.buffer ≤ c.eden) = false := by simp only [decide_eq_false_iff_not]; exact h5
                go_wp2_with fail
                go_meet
                exact ⟨congrArg Value.bool (decide_eq_false (by omega)).symm, rfl⟩
            · have g4 : decide (0 ≤ c.buffer) = false := by simp only [decide_eq_false_iff_not]; exact h4
              go_wp2_with fail
              go_meet
              exact ⟨congrArg Value.bool (decide_eq_false (by omega)).symm, rfl⟩
          · have g3 : decide (c.floor ≤ 65536) = false := by simp only [decide_eq_false_iff_not]; exact h3
            go_wp2_with fail
            go_meet
            exact ⟨congrArg Value.bool (decide_eq_false (by omega)).symm, rfl⟩
        · have g2 : decide (0 ≤ c.floor) = false := by simp only [decide_eq_false_iff_not]; exact h2
          go_wp2_with fail
          go_meet
          exact ⟨congrArg Value.bool (decide_eq_false (by omega)).symm, rfl⟩
      · have g1 : decide (c.large ≤ 65536) = false := by simp only [decide_eq_false_iff_not]; exact h1
        go_wp2_with fail
        go_meet
        exact ⟨congrArg Value.bool (decide_eq_false (by omega)).symm, rfl⟩
    · have g0 : decide (2 ≤ c.large) = false := by simp only [decide_eq_false_iff_not]; exact h0
      go_wp2_with fail
      go_meet
      exact ⟨congrArg Value.bool (decide_eq_false (by omega)).symm, rfl⟩
  case rest =>
  obtain ⟨rfl, rfl⟩ := hcut
  apply hK
  clear hK K
  obtain ⟨q1, hq1⟩ : ∃ q, q = decide ((2 ≤ c.large) ∧ (c.large ≤ 65536) ∧ (0 ≤ c.floor) ∧ (c.floor ≤ 65536) ∧ (0 ≤ c.buffer) ∧ (c.buffer ≤ c.eden)) := ⟨_, rfl⟩
  rw [← hq1]
  have HQ1 : Hid (q1 = _) := hq1
  clear hq1
  refine wp_seq_k ?_
  intro K hK
  go_cut [5] from 65 to 99 (fun v wc => v = .bool (decide ((1 ≤ c.den) ∧ (c.den ≤ c.num) ∧ (c.num ≤ 65536) ∧ (1 ≤ c.target) ∧ (c.target ≤ 100) ∧ (1 ≤ c.maxAge) ∧ (c.maxAge ≤ 15))) ∧ w0 = wc)
  case first =>
    by_cases h0 : 1 ≤ c.den
    · by_cases h1 : c.den ≤ c.num
      · by_cases h2 : c.num ≤ 65536
        · by_cases h3 : 1 ≤ c.target
          · by_cases h4 : c.target ≤ 100
            · by_cases h5 : 1 ≤ c.maxAge
              · by_cases h6 : c.maxAge ≤ 15
                · go_wp2_with fail
                  go_meet
                  exact ⟨congrArg Value.bool (decide_eq_true (by omega)).symm, rfl⟩
                · have g6 : decide (c.maxAge ≤ 15) = false := by simp only [decide_eq_false_iff_not]; exact h6
                  go_wp2_with fail
                  go_meet
                  exact ⟨congrArg Value.bool (decide_eq_false (by omega)).symm, rfl⟩
              · have g5 : decide (1 ≤ c.maxAge) = false := by simp only [decide_eq_false_iff_not]; exact h5
                go_wp2_with fail
                go_meet
                exact ⟨congrArg Value.bool (decide_eq_false (by omega)).symm, rfl⟩
            · have g4 : decide (c.target ≤ 100) = false := by simp only [decide_eq_false_iff_not]; exact h4
              go_wp2_with fail
              go_meet
              exact ⟨congrArg Value.bool (decide_eq_false (by omega)).symm, rfl⟩
          · have g3 : decide (1 ≤ c.target) = false := by simp only [decide_eq_false_iff_not]; exact h3
            go_wp2_with fail
            go_meet
            exact ⟨congrArg Value.bool (decide_eq_false (by omega)).symm, rfl⟩
        · have g2 : decide (c.num ≤ 65536) = false := by simp only [decide_eq_false_iff_not]; exact h2
          go_wp2_with fail
          go_meet
          exact ⟨congrArg Value.bool (decide_eq_false (by omega)).symm, rfl⟩
      · have g1 : decide (c.den ≤ c.num) = false := by simp only [decide_eq_false_iff_not]; exact h1
        go_wp2_with fail
        go_meet
        exact ⟨congrArg Value.bool (decide_eq_false (by omega)).symm, rfl⟩
    · have g0 : decide (1 ≤ c.den) = false := by simp only [decide_eq_false_iff_not]; exact h0
      go_wp2_with fail
      go_meet
      exact ⟨congrArg Value.bool (decide_eq_false (by omega)).symm, rfl⟩
  case rest =>
  obtain ⟨rfl, rfl⟩ := hcut
  apply hK
  clear hK K
  obtain ⟨q2, hq2⟩ : ∃ q, q = decide ((1 ≤ c.den) ∧ (c.den ≤ c.num) ∧ (c.num ≤ 65536) ∧ (1 ≤ c.target) ∧ (c.target ≤ 100) ∧ (1 ≤ c.maxAge) ∧ (c.maxAge ≤ 15)) := ⟨_, rfl⟩
  rw [← hq2]
  have HQ2 : Hid (q2 = _) := hq2
  clear hq2
  refine wp_seq_k ?_
  intro K hK
  go_cut [6] from 100 to 137 (fun v wc => v = .bool (decide ((1 ≤ c.threads) ∧ (c.threads ≤ 8) ∧ (1 ≤ c.slots) ∧ (c.slots ≤ 4096) ∧ (0 ≤ c.handles) ∧ (c.handles ≤ 1024) ∧ (1 ≤ c.workers) ∧ (c.workers ≤ 8))) ∧ w0 = wc)
  case first =>
    by_cases h0 : 1 ≤ c.threads
    · by_cases h1 : c.threads ≤ 8
      · by_cases h2 : 1 ≤ c.slots
        · by_cases h3 : c.slots ≤ 4096
          · by_cases h4 : 0 ≤ c.handles
            · by_cases h5 : c.handles ≤ 1024
              · by_cases h6 : 1 ≤ c.workers
                · by_cases h7 : c.workers ≤ 8
                  · go_wp2_with fail
                    go_meet
                    exact ⟨congrArg Value.bool (decide_eq_true (by omega)).symm, rfl⟩
                  · have g7 : decide (c.workers ≤ 8) = false := by simp only [decide_eq_false_iff_not]; exact h7
                    go_wp2_with fail
                    go_meet
                    exact ⟨congrArg Value.bool (decide_eq_false (by omega)).symm, rfl⟩
                · have g6 : decide (1 ≤ c.workers) = false := by simp only [decide_eq_false_iff_not]; exact h6
                  go_wp2_with fail
                  go_meet
                  exact ⟨congrArg Value.bool (decide_eq_false (by omega)).symm, rfl⟩
              · have g5 : decide (c.handles ≤ 1024) = false := by simp only [decide_eq_false_iff_not]; exact h5
                go_wp2_with fail
                go_meet
                exact ⟨congrArg Value.bool (decide_eq_false (by omega)).symm, rfl⟩
            · have g4 : decide (0 ≤ c.handles) = false := by simp only [decide_eq_false_iff_not]; exact h4
              go_wp2_with fail
              go_meet
              exact ⟨congrArg Value.bool (decide_eq_false (by omega)).symm, rfl⟩
          · have g3 : decide (c.slots ≤ 4096) = false := by simp only [decide_eq_false_iff_not]; exact h3
            go_wp2_with fail
            go_meet
            exact ⟨congrArg Value.bool (decide_eq_false (by omega)).symm, rfl⟩
        · have g2 : decide (1 ≤ c.slots) = false := by simp only [decide_eq_false_iff_not]; exact h2
          go_wp2_with fail
          go_meet
          exact ⟨congrArg Value.bool (decide_eq_false (by omega)).symm, rfl⟩
      · have g1 : decide (c.threads ≤ 8) = false := by simp only [decide_eq_false_iff_not]; exact h1
        go_wp2_with fail
        go_meet
        exact ⟨congrArg Value.bool (decide_eq_false (by omega)).symm, rfl⟩
    · have g0 : decide (1 ≤ c.threads) = false := by simp only [decide_eq_false_iff_not]; exact h0
      go_wp2_with fail
      go_meet
      exact ⟨congrArg Value.bool (decide_eq_false (by omega)).symm, rfl⟩
  case rest =>
  obtain ⟨rfl, rfl⟩ := hcut
  apply hK
  clear hK K
  obtain ⟨q3, hq3⟩ : ∃ q, q = decide ((1 ≤ c.threads) ∧ (c.threads ≤ 8) ∧ (1 ≤ c.slots) ∧ (c.slots ≤ 4096) ∧ (0 ≤ c.handles) ∧ (c.handles ≤ 1024) ∧ (1 ≤ c.workers) ∧ (c.workers ≤ 8)) := ⟨_, rfl⟩
  rw [← hq3]
  have HQ3 : Hid (q3 = _) := hq3
  clear hq3
  have HK : Hid ((q0 && (q1 && (q2 && q3))) = true ↔ c.Ok) := by
    show _ ↔ _
    rw [HQ0.out, HQ1.out, HQ2.out, HQ3.out]
    simp only [Bool.and_eq_true, decide_eq_true_eq]
    constructor
    · rintro ⟨⟨a1, a2, a3, a4, a5, a6⟩, ⟨b1, b2, b3, b4, b5, b6⟩, ⟨d1, d2, d3, d4, d5, d6, d7⟩, e1, e2, e3, e4, e5, e6, e7, e8⟩
      exact ⟨a1, a2, a3, a4, a5, a6, b1, b2, b3, b4, d1, d2, d3, d4, d5, d6, d7, e1, e2, e3, e4, e5, e6, b5, b6, e7, e8⟩
    · rintro ⟨a1, a2, a3, a4, a5, a6, b1, b2, b3, b4, d1, d2, d3, d4, d5, d6, d7, e1, e2, e3, e4, e5, e6, b5, b6, e7, e8⟩
      exact ⟨⟨a1, a2, a3, a4, a5, a6⟩, ⟨b1, b2, b3, b4, b5, b6⟩, ⟨d1, d2, d3, d4, d5, d6, d7⟩, e1, e2, e3, e4, e5, e6, e7, e8⟩
  clear HQ0 HQ1 HQ2 HQ3
  clear k0 k1 k2 k3 k4 k5 k6 k7 k8 k9 k10 k11 k12 k13
  cases q0 <;> cases q1 <;> cases q2 <;> cases q3
  all_goals
    go_wp2
    go_ret
    exact ⟨_, rfl, HK.out, HB.out⟩

end Go.Proofs.YtbgnagjhkfkekaaGreatDoor
