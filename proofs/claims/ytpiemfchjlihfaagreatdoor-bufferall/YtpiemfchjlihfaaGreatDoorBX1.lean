/-
  Fits, plain, Fix of a plan without things; config. (Printed by mkBX1.py.)
-/
import Derived.Test.YtpiemfchjlihfaaGreatDoorPB3
import Derived.Deep.MidRow
import Derived.Lib.LazyBuf
import Derived.Deep.CutRange
set_option linter.unusedVariables false
set_option maxRecDepth 20000
namespace Go.Proofs.YtpiemfchjlihfaaGreatDoor
open Go.RowKit Go.Shelf

set_option maxHeartbeats 8000000 in
theorem fits_any (c : Cfg) (w : World) :
    Calls Tryz.prog 41 #[cv c] w fun e w' => ∃ d : Bool, e = .returned (.bool d) ∧ (d = true ↔ c.Ok) ∧ Below w.heap.size w w' := by
  have b0 : Below w.heap.size w (w.alloc (.cells (ccells c) 23)) := Below.alloc (Below.refl _ _) (Nat.le_refl _) _
  have k0 : (w.alloc (.cells (ccells c) 23)).cell? ⟨w.heap.size, 0, none⟩ = some (.int .i64 c.eden) := (Cfd.new w c).cell 0
  have k1 : (w.alloc (.cells (ccells c) 23)).cell? ⟨w.heap.size, 1, none⟩ = some (.int .i64 c.surv) := (Cfd.new w c).cell 1
  have k2 : (w.alloc (.cells (ccells c) 23)).cell? ⟨w.heap.size, 2, none⟩ = some (.int .i64 c.ten) := (Cfd.new w c).cell 2
  have k3 : (w.alloc (.cells (ccells c) 23)).cell? ⟨w.heap.size, 3, none⟩ = some (.int .i64 c.large) := (Cfd.new w c).cell 3
  have k4 : (w.alloc (.cells (ccells c) 23)).cell? ⟨w.heap.size, 4, none⟩ = some (.int .i64 c.floor) := (Cfd.new w c).cell 4
  have k5 : (w.alloc (.cells (ccells c) 23)).cell? ⟨w.heap.size, 5, none⟩ = some (.int .i64 c.num) := (Cfd.new w c).cell 5
  have k6 : (w.alloc (.cells (ccells c) 23)).cell? ⟨w.heap.size, 6, none⟩ = some (.int .i64 c.den) := (Cfd.new w c).cell 6
  have k7 : (w.alloc (.cells (ccells c) 23)).cell? ⟨w.heap.size, 7, none⟩ = some (.int .i64 c.target) := (Cfd.new w c).cell 7
  have k8 : (w.alloc (.cells (ccells c) 23)).cell? ⟨w.heap.size, 8, none⟩ = some (.int .i64 c.maxAge) := (Cfd.new w c).cell 8
  have k9 : (w.alloc (.cells (ccells c) 23)).cell? ⟨w.heap.size, 9, none⟩ = some (.int .i64 c.threads) := (Cfd.new w c).cell 9
  have k10 : (w.alloc (.cells (ccells c) 23)).cell? ⟨w.heap.size, 10, none⟩ = some (.int .i64 c.slots) := (Cfd.new w c).cell 10
  have k11 : (w.alloc (.cells (ccells c) 23)).cell? ⟨w.heap.size, 11, none⟩ = some (.int .i64 c.handles) := (Cfd.new w c).cell 11
  have k12 : (w.alloc (.cells (ccells c) 23)).cell? ⟨w.heap.size, 12, none⟩ = some (.int .i64 c.buffer) := (Cfd.new w c).cell 12
  have k13 : (w.alloc (.cells (ccells c) 23)).cell? ⟨w.heap.size, 13, none⟩ = some (.int .i64 c.workers) := (Cfd.new w c).cell 13
  have HB : Hid _ := b0
  clear b0
  go_enter Tryz.func41, Tryz.ntmps41
  go_upto_region 1 with fail
  generalize w.alloc (.cells (ccells c) 23) = w0 at *
  obtain ⟨B, hB⟩ : ∃ B, B = w.heap.size := ⟨_, rfl⟩
  rw [← hB] at k0 k1 k2 k3 k4 k5 k6 k7 k8 k9 k10 k11 k12 k13 ⊢
  clear hB
  go_cut [3] from 7 to 34 (fun v wc => v = .bool (decide ((64 ≤ c.eden) ∧ (c.eden ≤ 65536) ∧ (64 ≤ c.surv) ∧ (c.surv ≤ 65536) ∧ (64 ≤ c.ten) ∧ (c.ten ≤ 65536))) ∧ w0 = wc)
  case first =>
    by_cases h0 : 64 ≤ c.eden
    · by_cases h1 : c.eden ≤ 65536
      · by_cases h2 : 64 ≤ c.surv
        · by_cases h3 : c.surv ≤ 65536
          · by_cases h4 : 64 ≤ c.ten
            · by_cases h5 : c.ten ≤ 65536
              · go_wp2_with fail
                go_meet
                exact ⟨congrArg Value.bool (decide_eq_true (by omega)).symm, rfl⟩
              · have g5 : decide (c.ten ≤ 65536) = false := by simp only [decide_eq_false_iff_not]; exact h5
                go_wp2_with fail
                go_meet
                exact ⟨congrArg Value.bool (decide_eq_false (by omega)).symm, rfl⟩
            · have g4 : decide (64 ≤ c.ten) = false := by simp only [decide_eq_false_iff_not]; exact h4
              go_wp2_with fail
              go_meet
              exact ⟨congrArg Value.bool (decide_eq_false (by omega)).symm, rfl⟩
          · have g3 : decide (c.surv ≤ 65536) = false := by simp only [decide_eq_false_iff_not]; exact h3
            go_wp2_with fail
            go_meet
            exact ⟨congrArg Value.bool (decide_eq_false (by omega)).symm, rfl⟩
        · have g2 : decide (64 ≤ c.surv) = false := by simp only [decide_eq_false_iff_not]; exact h2
          go_wp2_with fail
          go_meet
          exact ⟨congrArg Value.bool (decide_eq_false (by omega)).symm, rfl⟩
      · have g1 : decide (c.eden ≤ 65536) = false := by simp only [decide_eq_false_iff_not]; exact h1
        go_wp2_with fail
        go_meet
        exact ⟨congrArg Value.bool (decide_eq_false (by omega)).symm, rfl⟩
    · have g0 : decide (64 ≤ c.eden) = false := by simp only [decide_eq_false_iff_not]; exact h0
      go_wp2_with fail
      go_meet
      exact ⟨congrArg Value.bool (decide_eq_false (by omega)).symm, rfl⟩
  case rest =>
  obtain ⟨rfl, rfl⟩ := hcut
  apply_assumption
  obtain ⟨q0, hq0⟩ : ∃ q, q = decide ((64 ≤ c.eden) ∧ (c.eden ≤ 65536) ∧ (64 ≤ c.surv) ∧ (c.surv ≤ 65536) ∧ (64 ≤ c.ten) ∧ (c.ten ≤ 65536)) := ⟨_, rfl⟩
  rw [← hq0]
  have HQ0 : Hid (q0 = _) := hq0
  clear hq0
  refine wp_seq_k ?_
  intro K hK
  go_cut [4] from 35 to 64 (fun v wc => v = .bool (decide ((2 ≤ c.large) ∧ (c.large ≤ 65536) ∧ (0 ≤ c.floor) ∧ (c.floor ≤ 65536) ∧ (0 ≤ c.buffer) ∧ (c.buffer ≤ c.eden))) ∧ w0 = wc)
  case first =>
    by_cases h0 : 2 ≤ c.large
    · by_cases h1 : c.large ≤ 65536
      · by_cases h2 : 0 ≤ c.floor
        · by_cases h3 : c.floor ≤ 65536
          · by_cases h4 : 0 ≤ c.buffer
            · by_cases h5 : c.buffer ≤ c.eden
              · go_wp2_with fail
                go_meet
                exact ⟨congrArg Value.bool (decide_eq_true (by omega)).symm, rfl⟩
              · have g5 : decide (c.buffer ≤ c.eden) = false := by simp only [decide_eq_false_iff_not]; exact h5
                go_wp2_with fail
                go_meet
                exact ⟨congrArg Value.bool (decide_eq_false (by omega)).symm, rfl⟩
            · have g4 : decide (0 ≤ c.buffer) = false := by simp only [decide_eq_false_iff_not]; exact h4
              go_wp2_with fail
              go_meet
              exact ⟨congrArg Value.bool (decide_eq_false (by omega)).symm, rfl⟩
          · have g3 : decide (c.floor ≤ 65536) = false := by simp only [decide_eq_false_iff_not]; exact h3
            go_wp2_with fail
            go_meet
            exact ⟨congrArg Value.bool (decide_eq_false (by omega)).symm, rfl⟩
        · have g2 : decide (0 ≤ c.floor) = false := by simp only [decide_eq_false_iff_not]; exact h2
          go_wp2_with fail
          go_meet
          exact ⟨congrArg Value.bool (decide_eq_false (by omega)).symm, rfl⟩
      · have g1 : decide (c.large ≤ 65536) = false := by simp only [decide_eq_false_iff_not]; exact h1
        go_wp2_with fail
        go_meet
        exact ⟨congrArg Value.bool (decide_eq_false (by omega)).symm, rfl⟩
    · have g0 : decide (2 ≤ c.large) = false := by simp only [decide_eq_false_iff_not]; exact h0
      go_wp2_with fail
      go_meet
      exact ⟨congrArg Value.bool (decide_eq_false (by omega)).symm, rfl⟩
  case rest =>
  obtain ⟨rfl, rfl⟩ := hcut
  apply hK
  clear hK K
  obtain ⟨q1, hq1⟩ : ∃ q, q = decide ((2 ≤ c.large) ∧ (c.large ≤ 65536) ∧ (0 ≤ c.floor) ∧ (c.floor ≤ 65536) ∧ (0 ≤ c.buffer) ∧ (c.buffer ≤ c.eden)) := ⟨_, rfl⟩
  rw [← hq1]
  have HQ1 : Hid (q1 = _) := hq1
  clear hq1
  refine wp_seq_k ?_
  intro K hK
  go_cut [5] from 65 to 99 (fun v wc => v = .bool (decide ((1 ≤ c.den) ∧ (c.den ≤ c.num) ∧ (c.num ≤ 65536) ∧ (1 ≤ c.target) ∧ (c.target ≤ 100) ∧ (1 ≤ c.maxAge) ∧ (c.maxAge ≤ 15))) ∧ w0 = wc)
  case first =>
    by_cases h0 : 1 ≤ c.den
    · by_cases h1 : c.den ≤ c.num
      · by_cases h2 : c.num ≤ 65536
        · by_cases h3 : 1 ≤ c.target
          · by_cases h4 : c.target ≤ 100
            · by_cases h5 : 1 ≤ c.maxAge
              · by_cases h6 : c.maxAge ≤ 15
                · go_wp2_with fail
                  go_meet
                  exact ⟨congrArg Value.bool (decide_eq_true (by omega)).symm, rfl⟩
                · have g6 : decide (c.maxAge ≤ 15) = false := by simp only [decide_eq_false_iff_not]; exact h6
                  go_wp2_with fail
                  go_meet
                  exact ⟨congrArg Value.bool (decide_eq_false (by omega)).symm, rfl⟩
              · have g5 : decide (1 ≤ c.maxAge) = false := by simp only [decide_eq_false_iff_not]; exact h5
                go_wp2_with fail
                go_meet
                exact ⟨congrArg Value.bool (decide_eq_false (by omega)).symm, rfl⟩
            · have g4 : decide (c.target ≤ 100) = false := by simp only [decide_eq_false_iff_not]; exact h4
              go_wp2_with fail
              go_meet
              exact ⟨congrArg Value.bool (decide_eq_false (by omega)).symm, rfl⟩
          · have g3 : decide (1 ≤ c.target) = false := by simp only [decide_eq_false_iff_not]; exact h3
            go_wp2_with fail
            go_meet
            exact ⟨congrArg Value.bool (decide_eq_false (by omega)).symm, rfl⟩
        · have g2 : decide (c.num ≤ 65536) = false := by simp only [decide_eq_false_iff_not]; exact h2
          go_wp2_with fail
          go_meet
          exact ⟨congrArg Value.bool (decide_eq_false (by omega)).symm, rfl⟩
      · have g1 : decide (c.den ≤ c.num) = false := by simp only [decide_eq_false_iff_not]; exact h1
        go_wp2_with fail
        go_meet
        exact ⟨congrArg Value.bool (decide_eq_false (by omega)).symm, rfl⟩
    · have g0 : decide (1 ≤ c.den) = false := by simp only [decide_eq_false_iff_not]; exact h0
      go_wp2_with fail
      go_meet
      exact ⟨congrArg Value.bool (decide_eq_false (by omega)).symm, rfl⟩
  case rest =>
  obtain ⟨rfl, rfl⟩ := hcut
  apply hK
  clear hK K
  obtain ⟨q2, hq2⟩ : ∃ q, q = decide ((1 ≤ c.den) ∧ (c.den ≤ c.num) ∧ (c.num ≤ 65536) ∧ (1 ≤ c.target) ∧ (c.target ≤ 100) ∧ (1 ≤ c.maxAge) ∧ (c.maxAge ≤ 15)) := ⟨_, rfl⟩
  rw [← hq2]
  have HQ2 : Hid (q2 = _) := hq2
  clear hq2
  refine wp_seq_k ?_
  intro K hK
  go_cut [6] from 100 to 137 (fun v wc => v = .bool (decide ((1 ≤ c.threads) ∧ (c.threads ≤ 8) ∧ (1 ≤ c.slots) ∧ (c.slots ≤ 4096) ∧ (0 ≤ c.handles) ∧ (c.handles ≤ 1024) ∧ (1 ≤ c.workers) ∧ (c.workers ≤ 8))) ∧ w0 = wc)
  case first =>
    by_cases h0 : 1 ≤ c.threads
    · by_cases h1 : c.threads ≤ 8
      · by_cases h2 : 1 ≤ c.slots
        · by_cases h3 : c.slots ≤ 4096
          · by_cases h4 : 0 ≤ c.handles
            · by_cases h5 : c.handles ≤ 1024
              · by_cases h6 : 1 ≤ c.workers
                · by_cases h7 : c.workers ≤ 8
                  · go_wp2_with fail
                    go_meet
                    exact ⟨congrArg Value.bool (decide_eq_true (by omega)).symm, rfl⟩
                  · have g7 : decide (c.workers ≤ 8) = false := by simp only [decide_eq_false_iff_not]; exact h7
                    go_wp2_with fail
                    go_meet
                    exact ⟨congrArg Value.bool (decide_eq_false (by omega)).symm, rfl⟩
                · have g6 : decide (1 ≤ c.workers) = false := by simp only [decide_eq_false_iff_not]; exact h6
                  go_wp2_with fail
                  go_meet
                  exact ⟨congrArg Value.bool (decide_eq_false (by omega)).symm, rfl⟩
              · have g5 : decide (c.handles ≤ 1024) = false := by simp only [decide_eq_false_iff_not]; exact h5
                go_wp2_with fail
                go_meet
                exact ⟨congrArg Value.bool (decide_eq_false (by omega)).symm, rfl⟩
            · have g4 : decide (0 ≤ c.handles) = false := by simp only [decide_eq_false_iff_not]; exact h4
              go_wp2_with fail
              go_meet
              exact ⟨congrArg Value.bool (decide_eq_false (by omega)).symm, rfl⟩
          · have g3 : decide (c.slots ≤ 4096) = false := by simp only [decide_eq_false_iff_not]; exact h3
            go_wp2_with fail
            go_meet
            exact ⟨congrArg Value.bool (decide_eq_false (by omega)).symm, rfl⟩
        · have g2 : decide (1 ≤ c.slots) = false := by simp only [decide_eq_false_iff_not]; exact h2
          go_wp2_with fail
          go_meet
          exact ⟨congrArg Value.bool (decide_eq_false (by omega)).symm, rfl⟩
      · have g1 : decide (c.threads ≤ 8) = false := by simp only [decide_eq_false_iff_not]; exact h1
        go_wp2_with fail
        go_meet
        exact ⟨congrArg Value.bool (decide_eq_false (by omega)).symm, rfl⟩
    · have g0 : decide (1 ≤ c.threads) = false := by simp only [decide_eq_false_iff_not]; exact h0
      go_wp2_with fail
      go_meet
      exact ⟨congrArg Value.bool (decide_eq_false (by omega)).symm, rfl⟩
  case rest =>
  obtain ⟨rfl, rfl⟩ := hcut
  apply hK
  clear hK K
  obtain ⟨q3, hq3⟩ : ∃ q, q = decide ((1 ≤ c.threads) ∧ (c.threads ≤ 8) ∧ (1 ≤ c.slots) ∧ (c.slots ≤ 4096) ∧ (0 ≤ c.handles) ∧ (c.handles ≤ 1024) ∧ (1 ≤ c.workers) ∧ (c.workers ≤ 8)) := ⟨_, rfl⟩
  rw [← hq3]
  have HQ3 : Hid (q3 = _) := hq3
  clear hq3
  have HK : Hid ((q0 && (q1 && (q2 && q3))) = true ↔ c.Ok) := by
    show _ ↔ _
    rw [HQ0.out, HQ1.out, HQ2.out, HQ3.out]
    simp only [Bool.and_eq_true, decide_eq_true_eq]
    constructor
    · rintro ⟨⟨a1, a2, a3, a4, a5, a6⟩, ⟨b1, b2, b3, b4, b5, b6⟩, ⟨d1, d2, d3, d4, d5, d6, d7⟩, e1, e2, e3, e4, e5, e6, e7, e8⟩
      exact ⟨a1, a2, a3, a4, a5, a6, b1, b2, b3, b4, d1, d2, d3, d4, d5, d6, d7, e1, e2, e3, e4, e5, e6, b5, b6, e7, e8⟩
    · rintro ⟨a1, a2, a3, a4, a5, a6, b1, b2, b3, b4, d1, d2, d3, d4, d5, d6, d7, e1, e2, e3, e4, e5, e6, b5, b6, e7, e8⟩
      exact ⟨⟨a1, a2, a3, a4, a5, a6⟩, ⟨b1, b2, b3, b4, b5, b6⟩, ⟨d1, d2, d3, d4, d5, d6, d7⟩, e1, e2, e3, e4, e5, e6, e7, e8⟩
  clear HQ0 HQ1 HQ2 HQ3
  clear k0 k1 k2 k3 k4 k5 k6 k7 k8 k9 k10 k11 k12 k13
  cases q0 <;> cases q1 <;> cases q2 <;> cases q3
  all_goals
    go_wp2
    go_ret
    exact ⟨_, rfl, HK.out, HB.out⟩

/-- middenlay.plain. -/
def pcfg : Cfg := ⟨64, 64, 128, 32, 64, 3, 2, 50, 3, 2, 16, 4, 0, 2⟩

theorem pcfg_ok : pcfg.Ok := by constructor <;> decide

theorem cinfo : (Tryz.prog.info? 23).map (·.size) = some 14 := by kernel_rfl

theorem Cfd.load {w : World} {b : Nat} {c : Cfg} (h : Cfd w b c) : (loadVar 23 ⟨b, 0, none⟩).run Tryz.prog w = .ok (cv c) w :=
  run_loadVar_row w b 23 23 _ (0, 0) _ h.at_ Tryz.underlying23 rfl cinfo

theorem lplain_any (w : World) : Calls Tryz.prog 42 #[] w fun e w' => e = .returned (cv pcfg) ∧ Below w.heap.size w w' := by
  go_enter Tryz.func42, Tryz.ntmps42
  go_wp2
  refine bodyPost_ret (results_cell1 Tryz.results42 rfl (Cfd.new w pcfg).load) rfl ?_
  exact ⟨rfl, by go_grown⟩

abbrev pcells (c : Cfg) (v : Value) : Array Value := #[.int .i64 c.eden, .int .i64 c.surv, .int .i64 c.ten, .int .i64 c.large, .int .i64 c.floor, .int .i64 c.num, .int .i64 c.den, .int .i64 c.target, .int .i64 c.maxAge, .int .i64 c.threads, .int .i64 c.slots, .int .i64 c.handles, .int .i64 c.buffer, .int .i64 c.workers, v]
abbrev pv (c : Cfg) (v : Value) : Value := .agg (pcells c v)

/-- A plan in a block. -/
structure Pd (w : World) (b : Nat) (c : Cfg) (v : Value) : Prop where
  at_ : w.heap[b]? = some (.cells (pcells c v) 55 (0, 0))

theorem Pd.new (w : World) (c : Cfg) (v : Value) : Pd (w.alloc (.cells (pcells c v) 55)) w.heap.size c v := ⟨heap_alloc_new w _⟩
theorem Pd.lt {w : World} {b : Nat} {c : Cfg} {v : Value} (h : Pd w b c v) : b < w.heap.size := (Array.getElem?_eq_some_iff.1 h.at_).1
theorem Pd.below {w w' : World} {b : Nat} {c : Cfg} {v : Value} (h : Pd w b c v) (l : Below w.heap.size w w') : Pd w' b c v := ⟨(l.block b h.lt).trans h.at_⟩
theorem Pd.cell {w : World} {b : Nat} {c : Cfg} {v : Value} (h : Pd w b c v) (j : Nat) : w.cell? ⟨b, j, none⟩ = (pcells c v)[j]? := cell_of_row _ _ j _ _ _ h.at_
theorem Pd.frozen {w : World} {b : Nat} {c : Cfg} {v : Value} (h : Pd w b c v) (j : Nat) : w.frozen? ⟨b, j, none⟩ = false := by unfold World.frozen?; simp only [h.at_]; simp
theorem Pd.set {w : World} {b : Nat} {c : Cfg} {v : Value} (h : Pd w b c v) (v' : Value) : Pd (w.setCell ⟨b, 14, none⟩ v') b c v' := ⟨by simp [World.setCell, Array.getElem?_modify, h.at_]⟩
theorem pinfo : (Tryz.prog.info? 55).map (·.size) = some 15 := by kernel_rfl
theorem Pd.load {w : World} {b : Nat} {c : Cfg} {a : Option Addr} {n m : Nat} (h : Pd w b c (.slice a n m)) : (loadVar 55 ⟨b, 0, none⟩).run Tryz.prog w = .ok (pv c (.slice a n m)) w :=
  run_loadVar_row w b 55 55 _ (0, 0) _ h.at_ Tryz.underlying55 rfl pinfo


/-- A lay's cells. -/
def lyg (c : Cfg) (tv av : Value) (F T E : Nat → Int) (wd : Int) : Nat → Value := fun j => if j < 14 then ((ccells c)[j]?).getD undef else if j = 14 then tv else if j = 15 then av else if j < 21 then .int .i64 (F (j - 16)) else if j < 26 then .int .i64 (T (j - 21)) else if j < 31 then .int .i64 (E (j - 26)) else .int .i64 wd

def z5 : Nat → Int := fun _ => 0
/-- The first words, and the ends. -/
def firsts (c : Cfg) : Nat → Int := fun i => if i = 0 then 0 else if i = 1 then 1 else if i = 2 then 1 + c.eden else if i = 3 then 1 + c.eden + c.surv else 1 + c.eden + 2 * c.surv
def endsf (c : Cfg) : Nat → Int := fun i => if i = 0 then 0 else if i = 1 then 1 + c.eden else if i = 2 then 1 + c.eden + c.surv else if i = 3 then 1 + c.eden + 2 * c.surv else 1 + c.eden + 2 * c.surv + c.ten
/-- The tops, by space. -/
def topf (x : Tps) : Nat → Int := fun i => if i = 0 then 0 else if i = 1 then x.t1 else if i = 2 then x.t2 else if i = 3 then x.t3 else x.t4

theorem firsts_top (c : Cfg) : firsts c = topf (tops0 c) := by
  funext i
  unfold firsts topf tops0
  repeat' split
  all_goals first | rfl | (dsimp only; omega)

theorem topf_at (x : Tps) (s : Int) (h1 : 1 ≤ s) (h4 : s ≤ 4) : topf x s.toNat = x.top s := by
  obtain rfl | rfl | rfl | rfl : s = 1 ∨ s = 2 ∨ s = 3 ∨ s = 4 := by omega
  all_goals rfl

theorem endsf_at (c : Cfg) (s : Int) (h1 : 1 ≤ s) (h4 : s ≤ 4) : endsf c s.toNat = bhd c s := by
  obtain rfl | rfl | rfl | rfl : s = 1 ∨ s = 2 ∨ s = 3 ∨ s = 4 := by omega
  all_goals
    simp [endsf, bhd]
    try omega

/-- The lay in block lb. -/
abbrev Lw (w : World) (lb : Nat) (c : Cfg) (tv av : Value) (F T E : Nat → Int) (wd : Int) : Prop := w.rowIs lb 58 32 (lyg c tv av F T E wd)

theorem lw_cfg {w : World} {lb : Nat} {c : Cfg} {tv av : Value} {F T E : Nat → Int} {wd : Int} (h : Lw w lb c tv av F T E wd) (j : Nat) (hj : j < 14) : w.cell? ⟨lb, j, none⟩ = (ccells c)[j]? := by
  have := h.cell (i := j) (by omega)
  rw [this]
  unfold lyg
  rw [if_pos hj]
  match j, hj with
  | 0, _ | 1, _ | 2, _ | 3, _ | 4, _ | 5, _ | 6, _ | 7, _ | 8, _ | 9, _ | 10, _ | 11, _ | 12, _ | 13, _ => rfl

theorem lw_there {w : World} {lb : Nat} {f : Nat → Value} (h : w.rowIs lb 58 32 f) (o n : Nat) (hn : o + n ≤ 32) : w.there lb o n := fun j hj => ⟨by rw [h.cell (i := o + j) (by omega)]; rfl, h.frozen (o + j)⟩

/-- The configuration is stored. -/
theorem lw_setc {w : World} {lb : Nat} {c c' : Cfg} {tv av : Value} {F T E : Nat → Int} {wd : Int} (h : Lw w lb c tv av F T E wd) : Lw (w.setCells lb 0 (ccells c').toList) lb c' tv av F T E wd :=
  (rowIs_setCells _ 0 _ _ h).congr (fun j hj => by
    match j, hj with
    | 0, _ | 1, _ | 2, _ | 3, _ | 4, _ | 5, _ | 6, _ | 7, _ | 8, _ | 9, _ | 10, _ | 11, _ | 12, _ | 13, _ | 14, _ | 15, _ | 16, _ | 17, _ | 18, _ | 19, _ | 20, _ | 21, _ | 22, _ | 23, _ | 24, _ | 25, _ | 26, _ | 27, _ | 28, _ | 29, _ | 30, _ | 31, _ => rfl
    | j + 32, h => exact absurd h (by omega))

abbrev five (F : Nat → Int) : Array Value := #[.int .i64 (F 0), .int .i64 (F 1), .int .i64 (F 2), .int .i64 (F 3), .int .i64 (F 4)]

theorem lw_setF {w : World} {lb : Nat} {c : Cfg} {tv av : Value} {F F' T E : Nat → Int} {wd : Int} (h : Lw w lb c tv av F T E wd) : Lw (w.setCells lb 16 (five F').toList) lb c tv av F' T E wd :=
  (rowIs_setCells _ 16 _ _ h).congr (fun j hj => by
    match j, hj with
    | 0, _ | 1, _ | 2, _ | 3, _ | 4, _ | 5, _ | 6, _ | 7, _ | 8, _ | 9, _ | 10, _ | 11, _ | 12, _ | 13, _ | 14, _ | 15, _ | 16, _ | 17, _ | 18, _ | 19, _ | 20, _ | 21, _ | 22, _ | 23, _ | 24, _ | 25, _ | 26, _ | 27, _ | 28, _ | 29, _ | 30, _ | 31, _ => rfl
    | j + 32, h => exact absurd h (by omega))
theorem lw_setT {w : World} {lb : Nat} {c : Cfg} {tv av : Value} {F T' T E : Nat → Int} {wd : Int} (h : Lw w lb c tv av F T E wd) : Lw (w.setCells lb 21 (five T').toList) lb c tv av F T' E wd :=
  (rowIs_setCells _ 21 _ _ h).congr (fun j hj => by
    match j, hj with
    | 0, _ | 1, _ | 2, _ | 3, _ | 4, _ | 5, _ | 6, _ | 7, _ | 8, _ | 9, _ | 10, _ | 11, _ | 12, _ | 13, _ | 14, _ | 15, _ | 16, _ | 17, _ | 18, _ | 19, _ | 20, _ | 21, _ | 22, _ | 23, _ | 24, _ | 25, _ | 26, _ | 27, _ | 28, _ | 29, _ | 30, _ | 31, _ => rfl
    | j + 32, h => exact absurd h (by omega))
theorem lw_setE {w : World} {lb : Nat} {c : Cfg} {tv av : Value} {F E' T E : Nat → Int} {wd : Int} (h : Lw w lb c tv av F T E wd) : Lw (w.setCells lb 26 (five E').toList) lb c tv av F T E' wd :=
  (rowIs_setCells _ 26 _ _ h).congr (fun j hj => by
    match j, hj with
    | 0, _ | 1, _ | 2, _ | 3, _ | 4, _ | 5, _ | 6, _ | 7, _ | 8, _ | 9, _ | 10, _ | 11, _ | 12, _ | 13, _ | 14, _ | 15, _ | 16, _ | 17, _ | 18, _ | 19, _ | 20, _ | 21, _ | 22, _ | 23, _ | 24, _ | 25, _ | 26, _ | 27, _ | 28, _ | 29, _ | 30, _ | 31, _ => rfl
    | j + 32, h => exact absurd h (by omega))

theorem linfo5 : (Tryz.prog.info? 56).map (·.size) = some 5 := by kernel_rfl

/-- The cells of a new lay. -/
abbrev lzero (c : Cfg) : Array Value := #[.int .i64 c.eden, .int .i64 c.surv, .int .i64 c.ten, .int .i64 c.large, .int .i64 c.floor, .int .i64 c.num, .int .i64 c.den, .int .i64 c.target, .int .i64 c.maxAge, .int .i64 c.threads, .int .i64 c.slots, .int .i64 c.handles, .int .i64 c.buffer, .int .i64 c.workers, .slice none 0 0, .slice none 0 0, .int .i64 0, .int .i64 0, .int .i64 0, .int .i64 0, .int .i64 0, .int .i64 0, .int .i64 0, .int .i64 0, .int .i64 0, .int .i64 0, .int .i64 0, .int .i64 0, .int .i64 0, .int .i64 0, .int .i64 0, .int .i64 0]

theorem lw_new (w : World) (c : Cfg) : Lw (w.alloc (.cells (lzero c) 58)) w.heap.size c (.slice none 0 0) (.slice none 0 0) z5 z5 z5 0 :=
  World.rowIs_alloc w (lzero c) 58 _ (by
    intro i hi
    match i, hi with
    | 0, _ | 1, _ | 2, _ | 3, _ | 4, _ | 5, _ | 6, _ | 7, _ | 8, _ | 9, _ | 10, _ | 11, _ | 12, _ | 13, _ | 14, _ | 15, _ | 16, _ | 17, _ | 18, _ | 19, _ | 20, _ | 21, _ | 22, _ | 23, _ | 24, _ | 25, _ | 26, _ | 27, _ | 28, _ | 29, _ | 30, _ | 31, _ => rfl
    | j + 32, h => exact absurd (show j + 32 < 32 from h) (by omega))

theorem setCells_other (b : Nat) : ∀ (vs : List Value) (o : Nat) (w : World) (k : Nat), k ≠ b → (w.setCells b o vs).heap[k]? = w.heap[k]? := by
  intro vs
  induction vs with
  | nil => intro o w k _; rfl
  | cons v vs ih =>
    intro o w k hk
    rw [World.setCells, ih (o + 1) _ k hk]
    exact Below.heap_setCell _ _ _ _ hk

theorem below_setCells {n : Nat} {w w' : World} {b : Nat} (l : Below n w w') (hb : n ≤ b) : ∀ (vs : List Value) (o : Nat), Below n w (w'.setCells b o vs) := by
  intro vs
  induction vs generalizing w' with
  | nil => intro o; exact l
  | cons v vs ih =>
    intro o
    rw [World.setCells]
    exact ih (Below.setCell (p := ⟨b, o, none⟩) l hb v) (o + 1)

set_option maxHeartbeats 8000000 in
/-- Fix of a plan without things. -/
theorem fix0_any (cp : Cfg) (w : World) :
    Calls Tryz.prog 11 #[pv cp (.slice none 0 0)] w fun e w' => ∃ lb c, e = .returned (.pointer (some ⟨lb, 0, none⟩)) ∧ (∀ j, j < 14 → w'.cell? ⟨lb, j, none⟩ = (ccells c)[j]?) ∧ c.Ok ∧ ((cp.Ok ∧ c = cp) ∨ (¬ cp.Ok ∧ c = pcfg)) ∧ Below w.heap.size w w' := by
  go_enter Tryz.func11, Tryz.ntmps11
  go_upto_region 2 with fail
  have p0 := (Pd.new w cp (.slice none 0 0)).below (Below.alloc (Below.refl _ _) (Nat.le_refl _) (.cells (lzero cp) 58))
  have y0 := lw_new (w.alloc (.cells (pcells cp (.slice none 0 0)) 55)) cp
  have l0 : Below w.heap.size w ((w.alloc (.cells (pcells cp (.slice none 0 0)) 55)).alloc (.cells (lzero cp) 58)) := ((Below.refl _ w).alloc (Nat.le_refl _) _).alloc (by simp) _
  simp only [World.size_alloc] at y0
  obtain ⟨W, hW⟩ : ∃ W, W = (w.alloc (.cells (pcells cp (.slice none 0 0)) 55)).alloc (.cells (lzero cp) 58) := ⟨_, rfl⟩
  obtain ⟨B, hB⟩ : ∃ B, B = w.heap.size := ⟨_, rfl⟩
  rw [← hW] at p0 y0 l0
  rw [← hB] at p0 y0
  show Code.wp _ _ _ _ ((w.alloc (.cells (pcells cp (.slice none 0 0)) 55)).alloc (.cells (lzero cp) 58))
  rw [← hW, ← hB]
  have HP : Hid (Pd W B cp (.slice none 0 0)) := p0
  have HY : Hid (Lw W (B + 1) cp (.slice none 0 0) (.slice none 0 0) z5 z5 z5 0) := y0
  have HL : Hid (Below w.heap.size w W) := l0
  have HB : Hid (B = w.heap.size) := hB
  clear p0 y0 l0 hW hB
  have k0 : W.cell? ⟨B, 0, none⟩ = some (.int .i64 cp.eden) := HP.out.cell 0
  have k1 : W.cell? ⟨B, 1, none⟩ = some (.int .i64 cp.surv) := HP.out.cell 1
  have k2 : W.cell? ⟨B, 2, none⟩ = some (.int .i64 cp.ten) := HP.out.cell 2
  have k3 : W.cell? ⟨B, 3, none⟩ = some (.int .i64 cp.large) := HP.out.cell 3
  have k4 : W.cell? ⟨B, 4, none⟩ = some (.int .i64 cp.floor) := HP.out.cell 4
  have k5 : W.cell? ⟨B, 5, none⟩ = some (.int .i64 cp.num) := HP.out.cell 5
  have k6 : W.cell? ⟨B, 6, none⟩ = some (.int .i64 cp.den) := HP.out.cell 6
  have k7 : W.cell? ⟨B, 7, none⟩ = some (.int .i64 cp.target) := HP.out.cell 7
  have k8 : W.cell? ⟨B, 8, none⟩ = some (.int .i64 cp.maxAge) := HP.out.cell 8
  have k9 : W.cell? ⟨B, 9, none⟩ = some (.int .i64 cp.threads) := HP.out.cell 9
  have k10 : W.cell? ⟨B, 10, none⟩ = some (.int .i64 cp.slots) := HP.out.cell 10
  have k11 : W.cell? ⟨B, 11, none⟩ = some (.int .i64 cp.handles) := HP.out.cell 11
  have k12 : W.cell? ⟨B, 12, none⟩ = some (.int .i64 cp.buffer) := HP.out.cell 12
  have k13 : W.cell? ⟨B, 13, none⟩ = some (.int .i64 cp.workers) := HP.out.cell 13
  have hf := fits_any cp W
  go_wp2_with fail
  refine hf.mono ?_
  rintro e w2 ⟨d, rfl, hd, l2⟩
  have HP2 : Hid (Pd w2 B cp (.slice none 0 0)) := HP.out.below l2
  have HY2 : Hid (Lw w2 (B + 1) cp (.slice none 0 0) (.slice none 0 0) z5 z5 z5 0) := HY.out.of_block (l2.block _ HY.out.lt)
  have HL2 : Hid (Below w.heap.size w w2) := HL.out.trans (l2.mono HL.out.size)
  have Hd : Hid (d = true ↔ cp.Ok) := hd
  clear hf l2 hd HP HY HL k0 k1 k2 k3 k4 k5 k6 k7 k8 k9 k10 k11 k12 k13
  go_upto_region 3 with fail
  go_cut [23] from 22 to 23 (fun v23 wc => ∃ nb : Bool, v23 = .bool nb ∧ nb = !d ∧ w2 = wc)
  case first =>
    go_wp2_with fail
    go_meet
    exact ⟨_, rfl, rfl, rfl⟩
  case rest =>
  obtain ⟨nb, rfl, hnb, rfl⟩ := hcut
  have Hnb : Hid (nb = !d) := hnb
  clear hnb
  apply_assumption
  go_cut [] from 24 to 27 (fun wq => ∃ c : Cfg, Hid (c.Ok ∧ ((cp.Ok ∧ c = cp) ∨ (¬ cp.Ok ∧ c = pcfg))) ∧ Hid (Lw wq (B + 1) c (.slice none 0 0) (.slice none 0 0) z5 z5 z5 0) ∧ Hid (Pd wq B cp (.slice none 0 0)) ∧ Hid (Below w.heap.size w wq))
  case first =>
    by_cases hok : cp.Ok
    · obtain rfl : nb = false := by rw [Hnb.out, Hd.out.2 hok]; rfl
      have HK : Hid cp.Ok := hok
      clear hok
      go_wp2_with fail
      go_meet
      exact ⟨cp, (⟨HK.out, .inl ⟨HK.out, rfl⟩⟩ : cp.Ok ∧ ((cp.Ok ∧ cp = cp) ∨ (¬ cp.Ok ∧ cp = pcfg))), HY2, HP2, HL2⟩
    · obtain rfl : nb = true := by
        rw [Hnb.out]
        cases d
        · rfl
        · exact absurd (Hd.out.1 rfl) hok
      have HK : Hid (¬ cp.Ok) := hok
      have hp := lplain_any w2
      clear hok
      go_wp2_with fail
      refine hp.mono ?_
      rintro e w3 ⟨rfl, l3⟩
      have HP3 : Hid (Pd w3 B cp (.slice none 0 0)) := HP2.out.below l3
      have y3 : Lw w3 (B + 1) cp (.slice none 0 0) (.slice none 0 0) z5 z5 z5 0 := HY2.out.of_block (l3.block _ HY2.out.lt)
      have HL3 : Hid (Below w.heap.size w w3) := HL2.out.trans (l3.mono HL2.out.size)
      have hth := lw_there y3 0 14 (by decide)
      have Hy3 : Hid (Lw w3 (B + 1) cp (.slice none 0 0) (.slice none 0 0) z5 z5 z5 0) := y3
      clear hp l3 y3 HP2 HY2 HL2
      go_wp2_with (refine wpList_store_mid rfl 23 _ _ rfl (B + 1) 0 (ccells pcfg) rfl rfl hth cinfo (by kernel_rfl) ?_)
      go_meet
      have q1 := lw_setc (c' := pcfg) Hy3.out
      have q2 : Pd (w3.setCells (B + 1) 0 (ccells pcfg).toList) B cp (.slice none 0 0) := ⟨(setCells_other (B + 1) _ _ _ B (by omega)).trans HP3.out.at_⟩
      have q3 : Below w.heap.size w (w3.setCells (B + 1) 0 (ccells pcfg).toList) := below_setCells HL3.out (by have := HB.out; omega) _ _
      exact ⟨pcfg, (⟨pcfg_ok, .inr ⟨HK.out, rfl⟩⟩ : pcfg.Ok ∧ ((cp.Ok ∧ pcfg = cp) ∨ (¬ cp.Ok ∧ pcfg = pcfg))), q1, q2, q3⟩
  case rest =>
  obtain ⟨c, Hok, HY3, HP3, HL3⟩ := hcut
  clear HP2 HY2 HL2 Hd Hnb
  apply_assumption
  have k0 : wc.cell? ⟨B + 1, 0, none⟩ = some (.int .i64 c.eden) := lw_cfg HY3.out 0 (by decide)
  have k1 : wc.cell? ⟨B + 1, 1, none⟩ = some (.int .i64 c.surv) := lw_cfg HY3.out 1 (by decide)
  have k2 : wc.cell? ⟨B + 1, 2, none⟩ = some (.int .i64 c.ten) := lw_cfg HY3.out 2 (by decide)
  have k3 : wc.cell? ⟨B + 1, 3, none⟩ = some (.int .i64 c.large) := lw_cfg HY3.out 3 (by decide)
  have k4 : wc.cell? ⟨B + 1, 4, none⟩ = some (.int .i64 c.floor) := lw_cfg HY3.out 4 (by decide)
  have k5 : wc.cell? ⟨B + 1, 5, none⟩ = some (.int .i64 c.num) := lw_cfg HY3.out 5 (by decide)
  have k6 : wc.cell? ⟨B + 1, 6, none⟩ = some (.int .i64 c.den) := lw_cfg HY3.out 6 (by decide)
  have k7 : wc.cell? ⟨B + 1, 7, none⟩ = some (.int .i64 c.target) := lw_cfg HY3.out 7 (by decide)
  have k8 : wc.cell? ⟨B + 1, 8, none⟩ = some (.int .i64 c.maxAge) := lw_cfg HY3.out 8 (by decide)
  have k9 : wc.cell? ⟨B + 1, 9, none⟩ = some (.int .i64 c.threads) := lw_cfg HY3.out 9 (by decide)
  have k10 : wc.cell? ⟨B + 1, 10, none⟩ = some (.int .i64 c.slots) := lw_cfg HY3.out 10 (by decide)
  have k11 : wc.cell? ⟨B + 1, 11, none⟩ = some (.int .i64 c.handles) := lw_cfg HY3.out 11 (by decide)
  have k12 : wc.cell? ⟨B + 1, 12, none⟩ = some (.int .i64 c.buffer) := lw_cfg HY3.out 12 (by decide)
  have k13 : wc.cell? ⟨B + 1, 13, none⟩ = some (.int .i64 c.workers) := lw_cfg HY3.out 13 (by decide)
  go_upto_region 6 with fail
  clear k0 k1 k2 k3 k4 k5 k6 k7 k8 k9 k10 k11 k12 k13
  have f0 := Cfd.new wc c
  have l4 : Below wc.heap.size wc (wc.alloc (.cells (ccells c) 23)) := Below.alloc (Below.refl _ _) (Nat.le_refl _) _
  have HY4 : Hid (Lw (wc.alloc (.cells (ccells c) 23)) (B + 1) c (.slice none 0 0) (.slice none 0 0) z5 z5 z5 0) := HY3.out.of_block (l4.block _ HY3.out.lt)
  have HP4 : Hid (Pd (wc.alloc (.cells (ccells c) 23)) B cp (.slice none 0 0)) := HP3.out.below l4
  have HL4 : Hid (Below w.heap.size w (wc.alloc (.cells (ccells c) 23))) := HL3.out.trans (l4.mono HL3.out.size)
  have hCb : B + 1 < wc.heap.size := HY3.out.lt
  obtain ⟨Cb, hCbe⟩ : ∃ Cb, Cb = wc.heap.size := ⟨_, rfl⟩
  obtain ⟨v4, hv4⟩ : ∃ v4, v4 = wc.alloc (.cells (ccells c) 23) := ⟨_, rfl⟩
  rw [← hv4] at f0 HY4 HP4 HL4 ⊢
  rw [← hCbe] at f0 hCb ⊢
  clear l4 hCbe hv4 HY3 HP3 HL3
  obtain ⟨be0, be1, bs0, bs1, bt0, bt1⟩ : 64 ≤ c.eden ∧ c.eden ≤ 65536 ∧ 64 ≤ c.surv ∧ c.surv ≤ 65536 ∧ 64 ≤ c.ten ∧ c.ten ≤ 65536 := ⟨Hok.out.1.e0, Hok.out.1.e1, Hok.out.1.s0, Hok.out.1.s1, Hok.out.1.t0, Hok.out.1.t1⟩
  have HF : Hid (Cfd v4 Cb c) := f0
  have g0 : v4.cell? ⟨Cb, 0, none⟩ = some (.int .i64 c.eden) := f0.cell 0
  have g1 : v4.cell? ⟨Cb, 1, none⟩ = some (.int .i64 c.surv) := f0.cell 1
  have hth := lw_there HY4.out 16 5 (by decide)
  clear f0
  go_upto_region 7 with (refine wpList_store_mid rfl 56 _ _ rfl (B + 1) 16 (five (firsts c)) rfl rfl hth linfo5 (by kernel_rfl) ?_)
  clear g0 g1 hth
  have HY5 : Hid (Lw (v4.setCells (B + 1) 16 (five (firsts c)).toList) (B + 1) c (.slice none 0 0) (.slice none 0 0) (firsts c) z5 z5 0) := lw_setF HY4.out
  have HP5 : Hid (Pd (v4.setCells (B + 1) 16 (five (firsts c)).toList) B cp (.slice none 0 0)) := ⟨(setCells_other (B + 1) _ _ _ B (by omega)).trans HP4.out.at_⟩
  have HF5 : Hid (Cfd (v4.setCells (B + 1) 16 (five (firsts c)).toList) Cb c) := ⟨(setCells_other (B + 1) _ _ _ Cb (by omega)).trans HF.out.at_⟩
  have HL5 : Hid (Below w.heap.size w (v4.setCells (B + 1) 16 (five (firsts c)).toList)) := below_setCells HL4.out (by have := HB.out; omega) _ _
  generalize v4.setCells (B + 1) 16 (five (firsts c)).toList = v5 at *
  clear HY4 HP4 HF HL4
  have g0 : v5.cell? ⟨Cb, 0, none⟩ = some (.int .i64 c.eden) := HF5.out.cell 0
  have g1 : v5.cell? ⟨Cb, 1, none⟩ = some (.int .i64 c.surv) := HF5.out.cell 1
  have g2 : v5.cell? ⟨Cb, 2, none⟩ = some (.int .i64 c.ten) := HF5.out.cell 2
  have hth := lw_there HY5.out 26 5 (by decide)
  go_upto_region 8 with (refine wpList_store_mid rfl 56 _ _ rfl (B + 1) 26 (five (endsf c)) rfl rfl hth linfo5 (by kernel_rfl) ?_)
  clear g0 g1 g2 hth
  have HY6 : Hid (Lw (v5.setCells (B + 1) 26 (five (endsf c)).toList) (B + 1) c (.slice none 0 0) (.slice none 0 0) (firsts c) z5 (endsf c) 0) := lw_setE HY5.out
  have HP6 : Hid (Pd (v5.setCells (B + 1) 26 (five (endsf c)).toList) B cp (.slice none 0 0)) := ⟨(setCells_other (B + 1) _ _ _ B (by omega)).trans HP5.out.at_⟩
  have HL6 : Hid (Below w.heap.size w (v5.setCells (B + 1) 26 (five (endsf c)).toList)) := below_setCells HL5.out (by have := HB.out; omega) _ _
  generalize v5.setCells (B + 1) 26 (five (endsf c)).toList = v6 at *
  clear HY5 HP5 HF5 HL5
  have hth := lw_there HY6.out 21 5 (by decide)
  have hrg : v6.rangeAt (B + 1) 16 (five (firsts c)).toList := fun j u hj => by
    have hjl := (List.getElem?_eq_some_iff.1 hj).1
    have hjl5 : j < 5 := hjl
    rw [HY6.out.cell (i := 16 + j) (by omega)]
    match j, hjl5 with
    | 0, _ | 1, _ | 2, _ | 3, _ | 4, _ => simpa [lyg] using hj
  go_upto_region 9 with (first | (refine wpList_load_mid rfl 56 _ rfl (B + 1) 16 rfl (five (firsts c)).toList _ hrg Tryz.underlying56 rfl linfo5 ?_) | (refine wpList_store_mid rfl 56 _ _ rfl (B + 1) 21 (five (firsts c)) rfl rfl hth linfo5 (by kernel_rfl) ?_))
  clear hth hrg
  have HY7 : Hid (Lw (v6.setCells (B + 1) 21 (five (firsts c)).toList) (B + 1) c (.slice none 0 0) (.slice none 0 0) (firsts c) (firsts c) (endsf c) 0) := lw_setT HY6.out
  have HP7 : Hid (Pd (v6.setCells (B + 1) 21 (five (firsts c)).toList) B cp (.slice none 0 0)) := ⟨(setCells_other (B + 1) _ _ _ B (by omega)).trans HP6.out.at_⟩
  have HL7 : Hid (Below w.heap.size w (v6.setCells (B + 1) 21 (five (firsts c)).toList)) := below_setCells HL6.out (by have := HB.out; omega) _ _
  generalize v6.setCells (B + 1) 21 (five (firsts c)).toList = v7 at *
  clear HY6 HP6 HL6
  have e30 : v7.cell? ⟨B + 1, 30, none⟩ = some (.int .i64 (endsf c 4)) := HY7.out.cell (i := 30) (by decide)
  have e31 : v7.cell? ⟨B + 1, 31, none⟩ = some (.int .i64 0) := HY7.out.cell (i := 31) (by decide)
  have f31 := HY7.out.frozen 31
  generalize hq4 : endsf c 4 = q4 at e30
  have Hq4 : Hid (endsf c 4 = q4) := hq4
  clear hq4
  go_upto_region 10 with fail
  have HY8 : Hid (Lw (v7.setCell ⟨B + 1, 31, none⟩ (.int .i64 q4)) (B + 1) c (.slice none 0 0) (.slice none 0 0) (firsts c) (topf (tops0 c)) (endsf c) q4) := (HY7.out.set 31 (.int .i64 q4)).congr (fun j hj => by
    rw [← firsts_top]
    by_cases e : j = 31
    · subst e
      rw [if_pos rfl]
      rfl
    · rw [if_neg e]
      unfold lyg
      repeat' split
      all_goals first | rfl | omega)
  have HP8 : Hid (Pd (v7.setCell ⟨B + 1, 31, none⟩ (.int .i64 q4)) B cp (.slice none 0 0)) := ⟨(Below.heap_setCell _ _ _ _ (by show B ≠ B + 1; omega)).trans HP7.out.at_⟩
  have HL8 : Hid (Below w.heap.size w (v7.setCell ⟨B + 1, 31, none⟩ (.int .i64 q4))) := Below.setCell (p := ⟨B + 1, 31, none⟩) HL7.out (by have := HB.out; simp only; omega) _
  generalize v7.setCell ⟨B + 1, 31, none⟩ (.int .i64 q4) = v8 at *
  clear HY7 HP7 HL7 e30 e31 f31
  go_wp2
  go_loopw [6] (fun v6 wr => v6 = .int .i64 0 ∧ v8 = wr) (fun v6 _ => 0)
  case atStart => exact ⟨rfl, rfl⟩
  case round =>
    obtain ⟨rfl, rfl⟩ := hrel
    have e14 : v8.cell? ⟨B, 14, none⟩ = some (.slice none 0 0) := HP8.out.cell 14
    go_wp2
    have e15 : v8.cell? ⟨B + 1, 14, none⟩ = some (.slice none 0 0) := HY8.out.cell (i := 14) (by decide)
    go_loopw [11] (fun v11 wr => v11 = .int .i64 0 ∧ v8 = wr) (fun v11 _ => 0)
    case atStart => exact ⟨rfl, rfl⟩
    case round =>
      obtain ⟨rfl, rfl⟩ := hrel
      go_wp2
      go_ret
      exact ⟨_, c, rfl, fun j hj => lw_cfg HY8.out j hj, Hok.out.1, Hok.out.2, HL8.out⟩

end Go.Proofs.YtpiemfchjlihfaaGreatDoor
