/-
  Neighbours of a configuration: what they are; steps.
-/
import Derived.Test.YtlbmlnmgbjhljaaPC2
import Derived.Test.YtlbmlnmgbjhljaaKGB
import Derived.Laws.CopyOwn
import Derived.Laws.Rows
set_option linter.unusedVariables false
set_option maxRecDepth 20000
namespace Go.Proofs.Ytlbmlnmgbjhljaa
open Go.RowKit

/-- A step of words. -/
def qt (n : Int) : Int := if n < 4 then 1 else n / 4

/-- The fields that are turned. -/
def tof (c : Cfg) : Nat → Int
  | 0 => c.eden
  | 1 => c.surv
  | 2 => c.large
  | 3 => c.num
  | 4 => c.target
  | _ => c.maxAge
def tset (c : Cfg) (v : Int) : Nat → Cfg
  | 0 => { c with eden := v }
  | 1 => { c with surv := v }
  | 2 => { c with large := v }
  | 3 => { c with num := v }
  | 4 => { c with target := v }
  | _ => { c with maxAge := v }
def toff : Nat → Nat
  | 0 => 0
  | 1 => 1
  | 2 => 3
  | 3 => 5
  | 4 => 7
  | _ => 8
/-- By how much. -/
def tst (c : Cfg) : Nat → Int
  | 0 => qt c.eden
  | 1 => qt c.surv
  | 2 => qt c.large
  | 3 => 1
  | 4 => 10
  | _ => 1

def tby (j : Nat) (s : Int) : Int := if j = 0 then -s else s
/-- c with field i one step less (j = 0) or more. -/
def nbr (c : Cfg) (i j : Nat) : Cfg := tset c (tof c i + tby j (tst c i)) i
/-- The neighbours, up to the k-th of twelve. -/
def near (c : Cfg) : Nat → List Cfg
  | 0 => []
  | k + 1 => near c k ++ (if (nbr c (k / 2) (k % 2)).Okd then [nbr c (k / 2) (k % 2)] else [])

theorem near_len (c : Cfg) : ∀ k, (near c k).length ≤ k
  | 0 => Nat.le_refl _
  | k + 1 => by
    have := near_len c k
    unfold near
    rw [List.length_append]
    split
    · simp; omega
    · simp; omega

theorem qt_lo {n : Int} : 1 ≤ qt n := by unfold qt; split <;> omega
theorem qt_hi {n : Int} (h1 : n ≤ 65536) : qt n ≤ 16384 := by unfold qt; split <;> omega

theorem tst_ok {c : Cfg} (h : c.Ok) (i : Nat) : 1 ≤ tst c i ∧ tst c i ≤ 16384 := by
  have h1 := h.e1
  have h2 := h.s1
  have h3 := h.l1
  match i with
  | 0 => exact ⟨qt_lo, qt_hi h1⟩
  | 1 => exact ⟨qt_lo, qt_hi h2⟩
  | 2 => exact ⟨qt_lo, qt_hi h3⟩
  | 3 => simp only [tst]; omega
  | 4 => simp only [tst]; omega
  | i + 5 => simp only [tst]; omega

theorem tof_ok {c : Cfg} (h : c.Ok) (i : Nat) : 0 ≤ tof c i ∧ tof c i ≤ 65536 := by
  obtain ⟨e0, e1, s0, s1, t0, t1, l0, l1, f0, f1, d0, n0, n1, g0, g1, a0, a1, h0, h1, o0, o1, k0, k1, b0, b1, w0, w1⟩ := h
  match i with
  | 0 => simp only [tof]; omega
  | 1 => simp only [tof]; omega
  | 2 => simp only [tof]; omega
  | 3 => simp only [tof]; omega
  | 4 => simp only [tof]; omega
  | i + 5 => simp only [tof]; omega

theorem tset_cells (c : Cfg) (v : Int) (i : Nat) (hi : i < 6) : (ccells c).setIfInBounds (toff i) (.int .i64 v) = ccells (tset c v i) := by
  obtain rfl | rfl | rfl | rfl | rfl | rfl : i = 0 ∨ i = 1 ∨ i = 2 ∨ i = 3 ∨ i = 4 ∨ i = 5 := by omega
  all_goals rfl

theorem tof_cell (c : Cfg) (i : Nat) (hi : i < 6) : (ccells c)[toff i]? = some (.int .i64 (tof c i)) := by
  obtain rfl | rfl | rfl | rfl | rfl | rfl : i = 0 ∨ i = 1 ∨ i = 2 ∨ i = 3 ∨ i = 4 ∨ i = 5 := by omega
  all_goals rfl

theorem toff_lt (i : Nat) (hi : i < 6) : toff i < 14 := by
  obtain rfl | rfl | rfl | rfl | rfl | rfl : i = 0 ∨ i = 1 ∨ i = 2 ∨ i = 3 ∨ i = 4 ∨ i = 5 := by omega
  all_goals decide

theorem r21quarter_any (n : Int) (h0 : 0 ≤ n) (h1 : n ≤ 65536) (w : World) :
    Calls Try.prog 17 #[.int .i64 n] w fun e w' => e = .returned (.int .i64 (qt n)) ∧ w = w' := by
  by_cases h : n < 4
  · go_enter Try.func17, Try.ntmps17
    go_wp2
    go_ret
    exact ⟨by simp [qt, h], rfl⟩
  · have h' : decide (n < 4) = false := decide_eq_false h
    have e : n.tdiv 4 = n / 4 := Int.tdiv_eq_ediv_of_nonneg h0
    go_enter Try.func17, Try.ntmps17
    go_wp2
    go_ret
    exact ⟨by rw [show qt n = n / 4 by unfold qt; rw [if_neg (by omega)]]; rfl, rfl⟩

theorem tQuarter_any (n : Int) (h0 : 0 ≤ n) (h1 : n ≤ 65536) (w : World) :
    Calls Try.prog 20 #[.int .i64 n] w fun e w' => e = .returned (.int .i64 (qt n)) ∧ w = w' := by
  have e : n.tdiv 4 = n / 4 := Int.tdiv_eq_ediv_of_nonneg h0
  by_cases hq : 1 < n / 4
  · go_enter Try.func20, Try.ntmps20
    go_wp2
    go_ret
    exact ⟨by rw [show qt n = n / 4 by unfold qt; rw [if_neg (by omega)]]; rfl, rfl⟩
  · go_enter Try.func20, Try.ntmps20
    go_wp2
    go_ret
    exact ⟨by rw [show qt n = 1 by unfold qt; split <;> omega]; rfl, rfl⟩

abbrev six (a b c d e f : Value) : Array Value := #[a, b, c, d, e, f]
abbrev ic (n : Int) : Value := .int .i64 n
abbrev sxs (c : Cfg) : Array Value := #[ic (qt c.eden), ic (qt c.surv), ic (qt c.large), ic 1, ic 10, ic 1]
def sagg (c : Cfg) : Value := .agg (sxs c)
abbrev sz6 : Array Value := #[ic 0, ic 0, ic 0, ic 0, ic 0, ic 0]

theorem sidx (c : Cfg) (i : Nat) (hi : i < 6) (w : World) : (Instr.index 36 (sagg c) (.int .i64 i)).run Try.prog w = .ok (.int .i64 (tst c i)) w := by
  obtain rfl | rfl | rfl | rfl | rfl | rfl : i = 0 ∨ i = 1 ∨ i = 2 ∨ i = 3 ∨ i = 4 ∨ i = 5 := by omega
  all_goals kernel_rfl

theorem sinfo : (Try.prog.info? 36).map (·.size) = some 6 := by kernel_rfl
theorem sload (c : Cfg) (w : World) : (loadVar 36 ⟨w.heap.size, 0, none⟩).run Try.prog (w.alloc (.cells (sxs c) 36)) = .ok (sagg c) (w.alloc (.cells (sxs c) 36)) :=
  run_loadVar_new (P := Try.prog) w 36 (sxs c) 6 3 Try.underlying36 sinfo

set_option maxHeartbeats 4000000 in
theorem stepsOf_any (c : Cfg) (hc : c.Ok) (w : World) :
    Calls Try.prog 14 #[cv c] w fun e w' => e = .returned (sagg c) ∧ Below w.heap.size w w' := by
  have k : ∀ j v, (ccells c)[j]? = some v → ((w.alloc (.cells (ccells c) 28)).alloc (.cells sz6 36)).cell? ⟨w.heap.size, j, none⟩ = some v := fun j v hv => by
    rw [cell_of_row _ _ j (ccells c) 28 (0, 0) ((Below.heap_alloc _ _ _ (by simp)).trans (heap_alloc_new w _))]
    exact hv
  have k0 := k 0 (.int .i64 c.eden) rfl
  have k1 := k 1 (.int .i64 c.surv) rfl
  have k3 := k 3 (.int .i64 c.large) rfl
  clear k
  have HC : Hid c.Ok := hc
  clear hc
  have HB0 : Hid (Below w.heap.size w (w.alloc (.cells (ccells c) 28))) := Below.alloc (Below.refl _ _) (Nat.le_refl _) _
  go_enter Try.func14, Try.ntmps14
  go_upto_region 1 with fail
  rw [show w.heap.size + 1 = (w.alloc (.cells (ccells c) 28)).heap.size by simp]
  generalize (w.alloc (.cells (ccells c) 28)) = W0 at *
  have hg := heap_alloc_last W0 (.cells sz6 36)
  have HQ : Hid (∀ n w9, 0 ≤ n → n ≤ 65536 → Calls Try.prog 20 #[.int .i64 n] w9 fun e w' => e = .returned (.int .i64 (qt n)) ∧ w' = w9) := fun n w9 h0 h1 => (tQuarter_any n h0 h1 w9).mono fun e w' h => ⟨h.1, h.2.symm⟩
  have q0 := HQ.out c.eden (W0.alloc (.cells sz6 36)).drew (by have := HC.out.e0; omega) HC.out.e1
  have q1 := HQ.out c.surv (W0.alloc (.cells sz6 36)).drew (by have := HC.out.s0; omega) HC.out.s1
  have q2 := HQ.out c.large (W0.alloc (.cells sz6 36)).drew (by have := HC.out.l0; omega) HC.out.l1
  refine Kg.quiet_tail 9 Kg.mixed (by kernel_rfl) ?_
  simp only [List.take_succ_cons, List.take_zero, List.drop_succ_cons, List.drop_zero]
  repeat (go_big_quiet_step (first | exact q0 _ | exact q1 _ | exact q2 _))
  refine wpQuiet_nil ?_
  obtain ⟨W1, hW1⟩ : ∃ x, x = (W0.alloc (.cells sz6 36)).drew := ⟨_, rfl⟩
  have hg1 : W1.heap[W0.heap.size]? = some (.cells sz6 36 (0, 0)) := by rw [hW1]; exact hg
  have HB1 : Hid (Below w.heap.size w W1) := by rw [hW1]; exact below_drewN (Below.alloc HB0.out HB0.out.size _) 1
  rw [← hW1]
  clear q0 q1 q2 k0 k1 k3 hg hW1 HQ
  go_wp2_with (first
    | (refine wpList_build_as rfl 36 _ rfl (sxs c) (sagg c) rfl (by kernel_rfl) ?_)
    | (refine wpList_store_row rfl 36 _ _ rfl W0.heap.size (sxs c) rfl rfl 36 sz6 hg1 sinfo rfl (by kernel_rfl) ?_))
  have hl := run_loadVar_row (P := Try.prog) (W1.setRow W0.heap.size (sxs c)) W0.heap.size 36 36 (sxs c) (0, 0) _ (setRow_heap W1 _ sz6 (sxs c) 36 (0, 0) hg1) Try.underlying36 rfl sinfo
  go_wp2
  refine bodyPost_ret (results_cell1 Try.results14 rfl hl) rfl ?_
  exact ⟨rfl, below_setRow HB1.out HB0.out.size _⟩

end Go.Proofs.Ytlbmlnmgbjhljaa
