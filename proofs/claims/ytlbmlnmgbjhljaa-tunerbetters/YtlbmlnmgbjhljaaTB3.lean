/-
  Costs: which one is better, by the program. (mkTB3.py prints this text.)
-/
import Derived.Test.YtlbmlnmgbjhljaaTB2
set_option linter.unusedVariables false
set_option maxRecDepth 20000
namespace Go.Proofs.Ytlbmlnmgbjhljaa
open Go.RowKit

theorem cmpz_lt {x y : Int} (h : x < y) : cmpz x y = -1 := by unfold cmpz; rw [if_pos h]
theorem cmpz_gt {x y : Int} (h : y < x) : cmpz x y = 1 := by unfold cmpz; rw [if_neg (by omega), if_pos h]
theorem cmpz_eq {x y : Int} (h : x = y) : cmpz x y = 0 := by unfold cmpz; rw [if_neg (by omega), if_neg (by omega)]

theorem or3_bet (g : Int) (a b : Cst) (h : miss g a = miss g b) : decide (or3 (cmpz a.failed b.failed) (cmpz a.total b.total) (cmpz a.worst b.worst) < 0) = bet g a b := by
  unfold bet
  rw [if_pos h]
  rcases Int.lt_trichotomy a.failed b.failed with h1 | h1 | h1
  · rw [cmpz_lt h1, if_neg (by omega), decide_eq_true h1]; simp [or3]
  · rw [cmpz_eq h1, if_pos h1]
    rcases Int.lt_trichotomy a.total b.total with h2 | h2 | h2
    · rw [cmpz_lt h2, if_neg (by omega), decide_eq_true h2]; simp [or3]
    · rw [cmpz_eq h2, if_pos h2]
      rcases Int.lt_trichotomy a.worst b.worst with h3 | h3 | h3
      · rw [cmpz_lt h3, decide_eq_true h3]; simp [or3]
      · rw [cmpz_eq h3]; simp [or3]; omega
      · rw [cmpz_gt h3]; simp [or3]; omega
    · rw [cmpz_gt h2, if_neg (by omega)]; simp [or3]; omega
  · rw [cmpz_gt h1, if_neg (by omega)]; simp [or3]; omega

set_option maxHeartbeats 4000000 in
theorem tBetter_any (g : Int) (a b : Cst) (w : World) :
    Calls Try.prog 5 #[gv g, kv a, kv b] w fun e w' => e = .returned (.bool (bet g a b)) ∧ Below w.heap.size w w' := by
  obtain ⟨w0, hw0⟩ : ∃ x, x = ((w.alloc (.cells #[.int .i64 g] 23)).alloc (.cells (kcells a) 25)).alloc (.cells (kcells b) 25) := ⟨_, rfl⟩
  have hX : Bx3 w0 w.heap.size g a b := by rw [hw0]; exact Bx3.new w g a b
  have hB : Below w.heap.size w w0 := by rw [hw0]; exact Below.alloc (Below.alloc (Below.alloc (Below.refl _ _) (Nat.le_refl _) _) (by simp) _) (by simp; omega) _
  have hs : w0.heap.size = w.heap.size + 3 := by rw [hw0]; simp
  have HX : Hid _ := hX
  have HB : Hid _ := hB
  have Hs : Hid _ := hs
  clear hX hB hs
  go_enter Try.func5, Try.ntmps5
  go_upto_region 1 with fail
  rw [← hw0]
  clear hw0
  have HC : Hid (∀ p : Kg.Bel w0, Bx3 p.v w.heap.size g a b) := fun p => HX.out.below p.h (by rw [Hs.out]; omega)
  haveI hinh : Inhabited (Kg.Bel w0) := ⟨⟨w0, Below.refl _ _⟩⟩
  have g0 : ∀ p : Kg.Bel w0, p.v.cell? ⟨w.heap.size, 0, none⟩ = some (.int .i64 g) := fun p => (HC.out p).g0
  have a0 : ∀ p : Kg.Bel w0, p.v.cell? ⟨w.heap.size + 1, 0, none⟩ = some (.int .i64 a.ops) := fun p => (HC.out p).ka 0 _ rfl
  have b0 : ∀ p : Kg.Bel w0, p.v.cell? ⟨w.heap.size + 2, 0, none⟩ = some (.int .i64 b.ops) := fun p => (HC.out p).kb 0 _ rfl
  have a1 : ∀ p : Kg.Bel w0, p.v.cell? ⟨w.heap.size + 1, 1, none⟩ = some (.int .i64 a.made) := fun p => (HC.out p).ka 1 _ rfl
  have b1 : ∀ p : Kg.Bel w0, p.v.cell? ⟨w.heap.size + 2, 1, none⟩ = some (.int .i64 b.made) := fun p => (HC.out p).kb 1 _ rfl
  have a2 : ∀ p : Kg.Bel w0, p.v.cell? ⟨w.heap.size + 1, 2, none⟩ = some (.int .i64 a.minors) := fun p => (HC.out p).ka 2 _ rfl
  have b2 : ∀ p : Kg.Bel w0, p.v.cell? ⟨w.heap.size + 2, 2, none⟩ = some (.int .i64 b.minors) := fun p => (HC.out p).kb 2 _ rfl
  have a3 : ∀ p : Kg.Bel w0, p.v.cell? ⟨w.heap.size + 1, 3, none⟩ = some (.int .i64 a.alls) := fun p => (HC.out p).ka 3 _ rfl
  have b3 : ∀ p : Kg.Bel w0, p.v.cell? ⟨w.heap.size + 2, 3, none⟩ = some (.int .i64 b.alls) := fun p => (HC.out p).kb 3 _ rfl
  have a4 : ∀ p : Kg.Bel w0, p.v.cell? ⟨w.heap.size + 1, 4, none⟩ = some (.int .i64 a.majors) := fun p => (HC.out p).ka 4 _ rfl
  have b4 : ∀ p : Kg.Bel w0, p.v.cell? ⟨w.heap.size + 2, 4, none⟩ = some (.int .i64 b.majors) := fun p => (HC.out p).kb 4 _ rfl
  have a5 : ∀ p : Kg.Bel w0, p.v.cell? ⟨w.heap.size + 1, 5, none⟩ = some (.int .i64 a.failed) := fun p => (HC.out p).ka 5 _ rfl
  have b5 : ∀ p : Kg.Bel w0, p.v.cell? ⟨w.heap.size + 2, 5, none⟩ = some (.int .i64 b.failed) := fun p => (HC.out p).kb 5 _ rfl
  have a6 : ∀ p : Kg.Bel w0, p.v.cell? ⟨w.heap.size + 1, 6, none⟩ = some (.int .i64 a.freed) := fun p => (HC.out p).ka 6 _ rfl
  have b6 : ∀ p : Kg.Bel w0, p.v.cell? ⟨w.heap.size + 2, 6, none⟩ = some (.int .i64 b.freed) := fun p => (HC.out p).kb 6 _ rfl
  have a7 : ∀ p : Kg.Bel w0, p.v.cell? ⟨w.heap.size + 1, 7, none⟩ = some (.int .i64 a.promoted) := fun p => (HC.out p).ka 7 _ rfl
  have b7 : ∀ p : Kg.Bel w0, p.v.cell? ⟨w.heap.size + 2, 7, none⟩ = some (.int .i64 b.promoted) := fun p => (HC.out p).kb 7 _ rfl
  have a8 : ∀ p : Kg.Bel w0, p.v.cell? ⟨w.heap.size + 1, 8, none⟩ = some (.int .i64 a.worst) := fun p => (HC.out p).ka 8 _ rfl
  have b8 : ∀ p : Kg.Bel w0, p.v.cell? ⟨w.heap.size + 2, 8, none⟩ = some (.int .i64 b.worst) := fun p => (HC.out p).kb 8 _ rfl
  have a9 : ∀ p : Kg.Bel w0, p.v.cell? ⟨w.heap.size + 1, 9, none⟩ = some (.int .i64 a.total) := fun p => (HC.out p).ka 9 _ rfl
  have b9 : ∀ p : Kg.Bel w0, p.v.cell? ⟨w.heap.size + 2, 9, none⟩ = some (.int .i64 b.total) := fun p => (HC.out p).kb 9 _ rfl
  have HMa : Hid (∀ p : Kg.Bel w0, Calls Try.prog 10 #[gv g, kv a] p.v fun e w' => e = .returned (.bool (miss g a)) ∧ Below p.v.heap.size p.v w') := fun p => misses_any g a p.v
  have HMb : Hid (∀ p : Kg.Bel w0, Calls Try.prog 10 #[gv g, kv b] p.v fun e w' => e = .returned (.bool (miss g b)) ∧ Below p.v.heap.size p.v w') := fun p => misses_any g b p.v
  obtain ⟨ma, hma⟩ : ∃ x, x = miss g a := ⟨_, rfl⟩
  obtain ⟨mb, hmb⟩ : ∃ x, x = miss g b := ⟨_, rfl⟩
  rw [← hma] at HMa
  rw [← hmb] at HMb
  have Hma : Hid (ma = miss g a) := hma
  have Hmb : Hid (mb = miss g b) := hmb
  clear hma hmb
  refine Kg.region_below Kg.mixed (by kernel_rfl) ?_
  repeat (go_big_quiet_step (first | (go_at_call 10; with_reducible exact Kg.calls_bel (HMa.out _)) | (go_at_call 10; with_reducible exact Kg.calls_bel (HMb.out _))))
  refine wpQuiet_nil ?_
  rintro w8 ⟨⟨w8, bl8⟩, rfl⟩
  have HX8 : Hid (Bx3 w8 w.heap.size g a b) := HC.out ⟨w8, bl8⟩
  have HB8 : Hid (Below w.heap.size w w8) := HB.out.trans (bl8.mono HB.out.size)
  clear bl8 HC HMa HMb hinh HX HB Hs g0 a0 b0 a1 b1 a2 b2 a3 b3 a4 b4 a5 b5 a6 b6 a7 b7 a8 b8 a9 b9
  obtain ⟨df, hdf⟩ : ∃ x, x = (!(ma == mb)) := ⟨_, rfl⟩
  rw [← hdf]
  have Hd : Hid (df = !(ma == mb)) := hdf
  clear hdf
  cases df with
  | false =>
    have Hm : Hid (miss g a = miss g b) := by
      show _ = _
      have h := Hd.out
      rw [← Hma.out, ← Hmb.out]
      simpa using h
    have g0 := HX8.out.g0
    have a5 := HX8.out.ka 5 (.int .i64 a.failed) rfl
    have b5 := HX8.out.kb 5 (.int .i64 b.failed) rfl
    have a8 := HX8.out.ka 8 (.int .i64 a.worst) rfl
    have b8 := HX8.out.kb 8 (.int .i64 b.worst) rfl
    have a9 := HX8.out.ka 9 (.int .i64 a.total) rfl
    have b9 := HX8.out.kb 9 (.int .i64 b.total) rfl
    have hr := or3_bet g a b Hm.out
    have Hr : Hid (decide (or3 (cmpz a.failed b.failed) (cmpz a.total b.total) (cmpz a.worst b.worst) < 0) = bet g a b) := hr
    clear hr
    have HCm : Hid (∀ x y : Int, Calls Try.prog 12 #[.int .i64 x, .int .i64 y] w8.drew fun e w' => e = .returned (.int .i64 (cmpz x y)) ∧ w' = w8.drew) := fun x y => (compare_any x y _).mono fun e w' h => ⟨h.1, h.2.symm⟩
    go_upto_region 3 with fail
    refine Kg.quiet_tail 15 Kg.mixed (by kernel_rfl) ?_
    simp only [List.take_succ_cons, List.take_zero, List.drop_succ_cons, List.drop_zero]
    repeat (go_big_quiet_step (first | exact HCm.out _ _ _))
    refine wpQuiet_nil ?_
    generalize cmpz a.failed b.failed = x1, cmpz a.total b.total = x2, cmpz a.worst b.worst = x3 at Hr ⊢
    obtain ⟨w4, hw4⟩ : ∃ x, x = w8.drew := ⟨_, rfl⟩
    have HB4 : Hid (Below w.heap.size w w4) := by rw [hw4]; exact below_drewN HB8.out 1
    rw [← hw4]
    clear HCm hw4 g0 a5 a8 a9 b5 b8 b9
    go_wp2_with fail
    have hc : ∀ (j : Nat) v, (#[.int .i64 x1, .int .i64 x2, .int .i64 x3] : Array Value)[j]? = some v → (w4.alloc (.cells #[.int .i64 x1, .int .i64 x2, .int .i64 x3] 3)).cell? ⟨w4.heap.size, j, none⟩ = some v := fun j v hv => by
      rw [cell_of_row _ _ j _ 3 (0, 0) (heap_alloc_new w4 _)]
      exact hv
    refine (or_any x1 x2 x3 w4.heap.size _ (hc 0 _ rfl) (hc 1 _ rfl) (hc 2 _ rfl)).mono ?_
    rintro e9 w9 ⟨rfl, rfl⟩
    clear hc
    have HB5 : Hid (Below w.heap.size w (w4.alloc (.cells #[.int .i64 x1, .int .i64 x2, .int .i64 x3] 3))) := Below.alloc HB4.out HB4.out.size _
    generalize or3 x1 x2 x3 = x4 at Hr ⊢
    generalize (w4.alloc (.cells #[.int .i64 x1, .int .i64 x2, .int .i64 x3] 3)) = w5 at *
    go_wp2
    go_ret
    exact ⟨by rw [← Hr.out]; rfl, HB5.out⟩
  | true =>
    have hm : ¬ ma = mb := by have h := Hd.out; simpa using h
    have Hb : Hid (bet g a b = mb) := by show _ = _; unfold bet; rw [if_neg (by rw [← Hma.out, ← Hmb.out]; exact hm), Hmb.out]
    have g0 := HX8.out.g0
    have a0 := HX8.out.ka 0 (.int .i64 a.ops) rfl
    have b0 := HX8.out.kb 0 (.int .i64 b.ops) rfl
    have a1 := HX8.out.ka 1 (.int .i64 a.made) rfl
    have b1 := HX8.out.kb 1 (.int .i64 b.made) rfl
    have a2 := HX8.out.ka 2 (.int .i64 a.minors) rfl
    have b2 := HX8.out.kb 2 (.int .i64 b.minors) rfl
    have a3 := HX8.out.ka 3 (.int .i64 a.alls) rfl
    have b3 := HX8.out.kb 3 (.int .i64 b.alls) rfl
    have a4 := HX8.out.ka 4 (.int .i64 a.majors) rfl
    have b4 := HX8.out.kb 4 (.int .i64 b.majors) rfl
    have a5 := HX8.out.ka 5 (.int .i64 a.failed) rfl
    have b5 := HX8.out.kb 5 (.int .i64 b.failed) rfl
    have a6 := HX8.out.ka 6 (.int .i64 a.freed) rfl
    have b6 := HX8.out.kb 6 (.int .i64 b.freed) rfl
    have a7 := HX8.out.ka 7 (.int .i64 a.promoted) rfl
    have b7 := HX8.out.kb 7 (.int .i64 b.promoted) rfl
    have a8 := HX8.out.ka 8 (.int .i64 a.worst) rfl
    have b8 := HX8.out.kb 8 (.int .i64 b.worst) rfl
    have a9 := HX8.out.ka 9 (.int .i64 a.total) rfl
    have b9 := HX8.out.kb 9 (.int .i64 b.total) rfl
    clear hm
    have q := misses_any g b w8
    rw [← Hmb.out] at q
    go_wp2_with fail
    refine q.mono ?_
    rintro e9 w9 ⟨rfl, bl9⟩
    go_wp2
    go_ret
    exact ⟨by rw [Hb.out]; rfl, HB8.out.trans (bl9.mono HB8.out.size)⟩

end Go.Proofs.Ytlbmlnmgbjhljaa
