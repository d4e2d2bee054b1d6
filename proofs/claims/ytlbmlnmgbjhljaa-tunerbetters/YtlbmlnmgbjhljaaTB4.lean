/-
  Costs: which one is better, by the document; the statement's walk.
-/
import Derived.Test.YtlbmlnmgbjhljaaTB3
set_option linter.unusedVariables false
set_option maxRecDepth 20000
namespace Go.Proofs.Ytlbmlnmgbjhljaa
open Go.RowKit

set_option maxHeartbeats 4000000 in
theorem r21Better_any (g : Int) (a b : Cst) (w : World) :
    Calls Try.prog 6 #[gv g, kv a, kv b] w fun e w' => e = .returned (.bool (bet g a b)) ∧ Below w.heap.size w w' := by
  obtain ⟨w0, hw0⟩ : ∃ x, x = ((w.alloc (.cells #[.int .i64 g] 23)).alloc (.cells (kcells a) 25)).alloc (.cells (kcells b) 25) := ⟨_, rfl⟩
  have hX : Bx3 w0 w.heap.size g a b := by rw [hw0]; exact Bx3.new w g a b
  have hB : Below w.heap.size w w0 := by rw [hw0]; exact Below.alloc (Below.alloc (Below.alloc (Below.refl _ _) (Nat.le_refl _) _) (by simp) _) (by simp; omega) _
  have HB : Hid _ := hB
  have g0 := hX.g0
  have a5 := hX.ka 5 (.int .i64 a.failed) rfl
  have a8 := hX.ka 8 (.int .i64 a.worst) rfl
  have a9 := hX.ka 9 (.int .i64 a.total) rfl
  have b5 := hX.kb 5 (.int .i64 b.failed) rfl
  have b8 := hX.kb 8 (.int .i64 b.worst) rfl
  have b9 := hX.kb 9 (.int .i64 b.total) rfl
  clear hX hB
  obtain ⟨r, hr⟩ : ∃ r, r = bet g a b := ⟨_, rfl⟩
  rw [← hr]
  have Hr : Hid _ := hr
  clear hr
  go_enter Try.func6, Try.ntmps6
  go_upto_region 1 with fail
  rw [← hw0]
  clear hw0
  by_cases h1 : 0 < g
  · by_cases h2 : g < a.worst
    · have h2' : decide (g < a.worst) = true := decide_eq_true h2
      by_cases h3 : g < b.worst
      · have h3' : decide (g < b.worst) = true := decide_eq_true h3
        have Hm : Hid (miss g a = miss g b) := by show _ = _; simp [miss, h1, h2, h3]
        by_cases h4 : a.failed = b.failed
        · by_cases h5 : a.total = b.total
          · go_wp2
            go_ret
            exact ⟨by rw [Hr.out]; unfold bet; rw [if_pos Hm.out, if_pos h4, if_pos h5]; rfl, HB.out⟩
          · have h5' : (a.total == b.total) = false := by simpa using h5
            go_wp2
            go_ret
            exact ⟨by rw [Hr.out]; unfold bet; rw [if_pos Hm.out, if_pos h4, if_neg h5]; rfl, HB.out⟩
        · have h4' : (a.failed == b.failed) = false := by simpa using h4
          go_wp2
          go_ret
          exact ⟨by rw [Hr.out]; unfold bet; rw [if_pos Hm.out, if_neg h4]; rfl, HB.out⟩
      · have h3' : decide (g < b.worst) = false := decide_eq_false h3
        have Hm : Hid (¬ miss g a = miss g b ∧ miss g b = false) := by show _ ∧ _; simp [miss, h1, h2, h3]
        go_wp2
        go_ret
        exact ⟨by rw [Hr.out]; unfold bet; rw [if_neg Hm.out.1, Hm.out.2]; rfl, HB.out⟩
    · have h2' : decide (g < a.worst) = false := decide_eq_false h2
      by_cases h3 : g < b.worst
      · have h3' : decide (g < b.worst) = true := decide_eq_true h3
        have Hm : Hid (¬ miss g a = miss g b ∧ miss g b = true) := by show _ ∧ _; simp [miss, h1, h2, h3]
        go_wp2
        go_ret
        exact ⟨by rw [Hr.out]; unfold bet; rw [if_neg Hm.out.1, Hm.out.2]; rfl, HB.out⟩
      · have h3' : decide (g < b.worst) = false := decide_eq_false h3
        have Hm : Hid (miss g a = miss g b) := by show _ = _; simp [miss, h1, h2, h3]
        by_cases h4 : a.failed = b.failed
        · by_cases h5 : a.total = b.total
          · go_wp2
            go_ret
            exact ⟨by rw [Hr.out]; unfold bet; rw [if_pos Hm.out, if_pos h4, if_pos h5]; rfl, HB.out⟩
          · have h5' : (a.total == b.total) = false := by simpa using h5
            go_wp2
            go_ret
            exact ⟨by rw [Hr.out]; unfold bet; rw [if_pos Hm.out, if_pos h4, if_neg h5]; rfl, HB.out⟩
        · have h4' : (a.failed == b.failed) = false := by simpa using h4
          go_wp2
          go_ret
          exact ⟨by rw [Hr.out]; unfold bet; rw [if_pos Hm.out, if_neg h4]; rfl, HB.out⟩
  · have h1' : decide (0 < g) = false := decide_eq_false h1
    have Hm : Hid (miss g a = miss g b) := by show _ = _; simp [miss, h1]
    by_cases h4 : a.failed = b.failed
    · by_cases h5 : a.total = b.total
      · go_wp2
        go_ret
        exact ⟨by rw [Hr.out]; unfold bet; rw [if_pos Hm.out, if_pos h4, if_pos h5]; rfl, HB.out⟩
      · have h5' : (a.total == b.total) = false := by simpa using h5
        go_wp2
        go_ret
        exact ⟨by rw [Hr.out]; unfold bet; rw [if_pos Hm.out, if_pos h4, if_neg h5]; rfl, HB.out⟩
    · have h4' : (a.failed == b.failed) = false := by simpa using h4
      go_wp2
      go_ret
      exact ⟨by rw [Hr.out]; unfold bet; rw [if_pos Hm.out, if_neg h4]; rfl, HB.out⟩

set_option maxHeartbeats 4000000 in
theorem betters_any (g : Int) (a b : Cst) (w : World) :
    Calls Try.prog 3 #[gv g, kv a, kv b] w fun e w' => e = .returned (.bool true) ∧ Below w.heap.size w w' := by
  obtain ⟨w0, hw0⟩ : ∃ x, x = ((w.alloc (.cells #[.int .i64 g] 23)).alloc (.cells (kcells a) 25)).alloc (.cells (kcells b) 25) := ⟨_, rfl⟩
  have hX : Bx3 w0 w.heap.size g a b := by rw [hw0]; exact Bx3.new w g a b
  have hB : Below w.heap.size w w0 := by rw [hw0]; exact Below.alloc (Below.alloc (Below.alloc (Below.refl _ _) (Nat.le_refl _) _) (by simp) _) (by simp; omega) _
  have hs : w0.heap.size = w.heap.size + 3 := by rw [hw0]; simp
  have HX : Hid _ := hX
  have HB : Hid _ := hB
  have Hs : Hid _ := hs
  clear hX hB hs
  go_enter Try.func3, Try.ntmps3
  go_upto_region 1 with fail
  rw [← hw0]
  clear hw0
  have HC : Hid (∀ p : Kg.Bel w0, Bx3 p.v w.heap.size g a b) := fun p => HX.out.below p.h (by rw [Hs.out]; omega)
  haveI hinh : Inhabited (Kg.Bel w0) := ⟨⟨w0, Below.refl _ _⟩⟩
  have g0 : ∀ p : Kg.Bel w0, p.v.cell? ⟨w.heap.size, 0, none⟩ = some (.int .i64 g) := fun p => (HC.out p).g0
  have a0 : ∀ p : Kg.Bel w0, p.v.cell? ⟨w.heap.size + 1, 0, none⟩ = some (.int .i64 a.ops) := fun p => (HC.out p).ka 0 _ rfl
  have b0 : ∀ p : Kg.Bel w0, p.v.cell? ⟨w.heap.size + 2, 0, none⟩ = some (.int .i64 b.ops) := fun p => (HC.out p).kb 0 _ rfl
  have a1 : ∀ p : Kg.Bel w0, p.v.cell? ⟨w.heap.size + 1, 1, none⟩ = some (.int .i64 a.made) := fun p => (HC.out p).ka 1 _ rfl
  have b1 : ∀ p : Kg.Bel w0, p.v.cell? ⟨w.heap.size + 2, 1, none⟩ = some (.int .i64 b.made) := fun p => (HC.out p).kb 1 _ rfl
  have a2 : ∀ p : Kg.Bel w0, p.v.cell? ⟨w.heap.size + 1, 2, none⟩ = some (.int .i64 a.minors) := fun p => (HC.out p).ka 2 _ rfl
  have b2 : ∀ p : Kg.Bel w0, p.v.cell? ⟨w.heap.size + 2, 2, none⟩ = some (.int .i64 b.minors) := fun p => (HC.out p).kb 2 _ rfl
  have a3 : ∀ p : Kg.Bel w0, p.v.cell? ⟨w.heap.size + 1, 3, none⟩ = some (.int .i64 a.alls) := fun p => (HC.out p).ka 3 _ rfl
  have b3 : ∀ p : Kg.Bel w0, p.v.cell? ⟨w.heap.size + 2, 3, none⟩ = some (.int .i64 b.alls) := fun p => (HC.out p).kb 3 _ rfl
  have a4 : ∀ p : Kg.Bel w0, p.v.cell? ⟨w.heap.size + 1, 4, none⟩ = some (.int .i64 a.majors) := fun p => (HC.out p).ka 4 _ rfl
  have b4 : ∀ p : Kg.Bel w0, p.v.cell? ⟨w.heap.size + 2, 4, none⟩ = some (.int .i64 b.majors) := fun p => (HC.out p).kb 4 _ rfl
  have a5 : ∀ p : Kg.Bel w0, p.v.cell? ⟨w.heap.size + 1, 5, none⟩ = some (.int .i64 a.failed) := fun p => (HC.out p).ka 5 _ rfl
  have b5 : ∀ p : Kg.Bel w0, p.v.cell? ⟨w.heap.size + 2, 5, none⟩ = some (.int .i64 b.failed) := fun p => (HC.out p).kb 5 _ rfl
  have a6 : ∀ p : Kg.Bel w0, p.v.cell? ⟨w.heap.size + 1, 6, none⟩ = some (.int .i64 a.freed) := fun p => (HC.out p).ka 6 _ rfl
  have b6 : ∀ p : Kg.Bel w0, p.v.cell? ⟨w.heap.size + 2, 6, none⟩ = some (.int .i64 b.freed) := fun p => (HC.out p).kb 6 _ rfl
  have a7 : ∀ p : Kg.Bel w0, p.v.cell? ⟨w.heap.size + 1, 7, none⟩ = some (.int .i64 a.promoted) := fun p => (HC.out p).ka 7 _ rfl
  have b7 : ∀ p : Kg.Bel w0, p.v.cell? ⟨w.heap.size + 2, 7, none⟩ = some (.int .i64 b.promoted) := fun p => (HC.out p).kb 7 _ rfl
  have a8 : ∀ p : Kg.Bel w0, p.v.cell? ⟨w.heap.size + 1, 8, none⟩ = some (.int .i64 a.worst) := fun p => (HC.out p).ka 8 _ rfl
  have b8 : ∀ p : Kg.Bel w0, p.v.cell? ⟨w.heap.size + 2, 8, none⟩ = some (.int .i64 b.worst) := fun p => (HC.out p).kb 8 _ rfl
  have a9 : ∀ p : Kg.Bel w0, p.v.cell? ⟨w.heap.size + 1, 9, none⟩ = some (.int .i64 a.total) := fun p => (HC.out p).ka 9 _ rfl
  have b9 : ∀ p : Kg.Bel w0, p.v.cell? ⟨w.heap.size + 2, 9, none⟩ = some (.int .i64 b.total) := fun p => (HC.out p).kb 9 _ rfl
  have H1 : Hid (∀ p : Kg.Bel w0, Calls Try.prog 5 #[gv g, kv a, kv b] p.v fun e w' => e = .returned (.bool (bet g a b)) ∧ Below p.v.heap.size p.v w') := fun p => tBetter_any g a b p.v
  have H2 : Hid (∀ p : Kg.Bel w0, Calls Try.prog 5 #[gv g, kv b, kv a] p.v fun e w' => e = .returned (.bool (bet g b a)) ∧ Below p.v.heap.size p.v w') := fun p => tBetter_any g b a p.v
  have H3 : Hid (∀ p : Kg.Bel w0, Calls Try.prog 6 #[gv g, kv a, kv b] p.v fun e w' => e = .returned (.bool (bet g a b)) ∧ Below p.v.heap.size p.v w') := fun p => r21Better_any g a b p.v
  have H4 : Hid (∀ p : Kg.Bel w0, Calls Try.prog 6 #[gv g, kv b, kv a] p.v fun e w' => e = .returned (.bool (bet g b a)) ∧ Below p.v.heap.size p.v w') := fun p => r21Better_any g b a p.v
  generalize bet g a b = x at H1 H3
  generalize bet g b a = y at H2 H4
  refine Kg.region_below Kg.mixed (by kernel_rfl) ?_
  repeat (go_big_quiet_step (first | (go_at_call 5; with_reducible exact Kg.calls_bel (H1.out _)) | (go_at_call 5; with_reducible exact Kg.calls_bel (H2.out _)) | (go_at_call 6; with_reducible exact Kg.calls_bel (H3.out _)) | (go_at_call 6; with_reducible exact Kg.calls_bel (H4.out _))))
  refine wpQuiet_nil ?_
  rintro w8 ⟨⟨w8, bl8⟩, rfl⟩
  have HB8 : Hid (Below w.heap.size w w8) := HB.out.trans (bl8.mono HB.out.size)
  clear bl8 HC H1 H2 H3 H4 hinh HX HB Hs g0 a0 b0 a1 b1 a2 b2 a3 b3 a4 b4 a5 b5 a6 b6 a7 b7 a8 b8 a9 b9
  go_wp2
  go_ret
  exact ⟨by simp, HB8.out⟩

end Go.Proofs.Ytlbmlnmgbjhljaa
