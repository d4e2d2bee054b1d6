/-
  PolicyTwo: its walk. (mkPT2.py prints this text.)
-/
import Derived.Test.YtcijdbhabbepaaaPT1
import Derived.Test.YtcijdbhabbepaaaPOq
set_option linter.unusedVariables false
set_option maxRecDepth 20000
namespace Go.Proofs.Ytcijdbhabbepaaa.Po
open Go.RowKit Go.Proofs.Ytcijdbhabbepaaa.Kg

/-- An Ask in a block. -/
def Abx (w : World) (b : Nat) (x : Ask) : Prop := w.heap[b]? = some (.cells (acells x) 30 (0, 0))

theorem ask_cell {w : World} {b : Nat} {x : Ask} (h : Abx w b x) (j : Nat) (v : Value) (hv : (acells x)[j]? = some v) : w.cell? ⟨b, j, none⟩ = some v := (heap_cell h j).trans hv
theorem Abx.below {n0 : Nat} {w w' : World} {b : Nat} {x : Ask} (h : Abx w b x) (hb : Below n0 w w') (hl : b < n0) : Abx w' b x := (hb.block b hl).trans h

theorem Ask.flt_or (x : Ask) : flt x.c x.base x.kind x.words = 0 ∨ flt x.c x.base x.kind x.words ≠ 0 := by omega

abbrev tk (x : Ask) : Task := mk12 x.c x.base x.kind x.words

set_option maxHeartbeats 8000000 in
theorem two_nn (x y : Ask) (w : World) (hx : AskIn w x) (hy : AskIn w y) (fx : flt x.c x.base x.kind x.words ≠ 0) (fy : flt y.c y.base y.kind y.words ≠ 0) :
    Calls Try.prog 6 #[askv x, askv y] w fun e w' => e = .returned (.bool true) ∧ Below w.heap.size w w' := by
  obtain ⟨w0, hw0⟩ : ∃ q9, q9 = (w.alloc (.cells (acells x) 30)).alloc (.cells (acells y) 30) := ⟨_, rfl⟩
  have hX0 : Abx w0 w.heap.size x := by rw [hw0]; exact (Below.heap_alloc _ _ _ (by simp)).trans (heap_alloc_new w _)
  have hY0 : Abx w0 (w.heap.size + 1) y := by rw [hw0]; have h := heap_alloc_new (w.alloc (.cells (acells x) 30)) (.cells (acells y) 30); simpa [Abx] using h
  have hW0 : Below w.heap.size w w0 := by rw [hw0]; exact Below.alloc (Below.alloc (Below.refl _ _) (Nat.le_refl _) _) (by simp) _
  have hs0 : w0.heap.size = w.heap.size + 2 := by rw [hw0]; simp
  have HW0 : Hid (Below w.heap.size w w0) := hW0
  have Hs0 : Hid (w0.heap.size = w.heap.size + 2) := hs0
  have Fx : Hid (flt x.c x.base x.kind x.words ≠ 0) := fx
  have Fy : Hid (flt y.c y.base y.kind y.words ≠ 0) := fy
  have HIx : Hid (AskIn w x) := hx
  have HIy : Hid (AskIn w y) := hy
  have HX0a : Hid (Abx w0 w.heap.size x) := hX0
  have HY0a : Hid (Abx w0 (w.heap.size + 1) y) := hY0
  have q := known_any w0
  clear hX0 hY0 hW0 hs0 hx hy fx fy
  go_enter Try.func6, Try.ntmps6
  go_upto_region 1 with fail
  rw [← hw0]
  clear hw0
  go_wp2_with fail
  refine q.mono ?_
  rintro e9 w1 ⟨rfl, r4⟩
  have HB1 : Hid (Below w0.heap.size w0 w1) := r4
  have HX1 : Hid (Abx w1 w.heap.size x) := HX0a.out.below r4 (heap_lt HX0a.out)
  have HY1 : Hid (Abx w1 (w.heap.size + 1) y) := HY0a.out.below r4 (heap_lt HY0a.out)
  have Hz1 : Hid (w0.heap.size ≤ w1.heap.size) := r4.size
  clear q r4 HX0a HY0a
  have k0 := ask_cell HX1.out 0 (.int .i64 x.c.eden) rfl
  have k1 := ask_cell HX1.out 1 (.int .i64 x.c.surv) rfl
  have k2 := ask_cell HX1.out 2 (.int .i64 x.c.ten) rfl
  have k3 := ask_cell HX1.out 3 (.int .i64 x.c.large) rfl
  have k4 := ask_cell HX1.out 4 (.int .i64 x.c.floor) rfl
  have k5 := ask_cell HX1.out 5 (.int .i64 x.c.num) rfl
  have k6 := ask_cell HX1.out 6 (.int .i64 x.c.den) rfl
  have k7 := ask_cell HX1.out 7 (.int .i64 x.c.target) rfl
  have k8 := ask_cell HX1.out 8 (.int .i64 x.c.maxAge) rfl
  have k9 := ask_cell HX1.out 9 (.int .i64 x.c.threads) rfl
  have k10 := ask_cell HX1.out 10 (.int .i64 x.c.slots) rfl
  have k11 := ask_cell HX1.out 11 (.int .i64 x.c.handles) rfl
  have k12 := ask_cell HX1.out 12 (.int .i64 x.c.buffer) rfl
  have k13 := ask_cell HX1.out 13 (.int .i64 x.c.workers) rfl
  have k14 := ask_cell HX1.out 14 (.int .i64 x.base) rfl
  have k15 := ask_cell HX1.out 15 (.int .i64 x.kind) rfl
  have k16 := ask_cell HX1.out 16 (.int .i64 x.words) rfl
  have q := pbegin_no Fx.out w1
  go_wp2_with fail
  refine q.mono ?_
  rintro e9 w2 ⟨rfl, r4⟩
  have HB2 : Hid (Below w0.heap.size w0 w2) := HB1.out.trans (r4.mono HB1.out.size)
  have HX2 : Hid (Abx w2 w.heap.size x) := HX1.out.below r4 (heap_lt HX1.out)
  have HY2 : Hid (Abx w2 (w.heap.size + 1) y) := HY1.out.below r4 (heap_lt HY1.out)
  have Hz2 : Hid (w1.heap.size ≤ w2.heap.size) := r4.size
  clear q k0 k1 k2 k3 k4 k5 k6 k7 k8 k9 k10 k11 k12 k13 k14 k15 k16 r4 HB1 HX1 HY1
  have k0 := ask_cell HY2.out 0 (.int .i64 y.c.eden) rfl
  have k1 := ask_cell HY2.out 1 (.int .i64 y.c.surv) rfl
  have k2 := ask_cell HY2.out 2 (.int .i64 y.c.ten) rfl
  have k3 := ask_cell HY2.out 3 (.int .i64 y.c.large) rfl
  have k4 := ask_cell HY2.out 4 (.int .i64 y.c.floor) rfl
  have k5 := ask_cell HY2.out 5 (.int .i64 y.c.num) rfl
  have k6 := ask_cell HY2.out 6 (.int .i64 y.c.den) rfl
  have k7 := ask_cell HY2.out 7 (.int .i64 y.c.target) rfl
  have k8 := ask_cell HY2.out 8 (.int .i64 y.c.maxAge) rfl
  have k9 := ask_cell HY2.out 9 (.int .i64 y.c.threads) rfl
  have k10 := ask_cell HY2.out 10 (.int .i64 y.c.slots) rfl
  have k11 := ask_cell HY2.out 11 (.int .i64 y.c.handles) rfl
  have k12 := ask_cell HY2.out 12 (.int .i64 y.c.buffer) rfl
  have k13 := ask_cell HY2.out 13 (.int .i64 y.c.workers) rfl
  have k14 := ask_cell HY2.out 14 (.int .i64 y.base) rfl
  have k15 := ask_cell HY2.out 15 (.int .i64 y.kind) rfl
  have k16 := ask_cell HY2.out 16 (.int .i64 y.words) rfl
  have q := pbegin_no Fy.out w2
  go_wp2_with fail
  refine q.mono ?_
  rintro e9 w3 ⟨rfl, r4⟩
  have HB3 : Hid (Below w0.heap.size w0 w3) := HB2.out.trans (r4.mono HB2.out.size)
  have HX3 : Hid (Abx w3 w.heap.size x) := HX2.out.below r4 (heap_lt HX2.out)
  have HY3 : Hid (Abx w3 (w.heap.size + 1) y) := HY2.out.below r4 (heap_lt HY2.out)
  have Hz3 : Hid (w2.heap.size ≤ w3.heap.size) := r4.size
  clear q k0 k1 k2 k3 k4 k5 k6 k7 k8 k9 k10 k11 k12 k13 k14 k15 k16 r4 HB2 HX2 HY2
  have k0 := ask_cell HX3.out 0 (.int .i64 x.c.eden) rfl
  have k1 := ask_cell HX3.out 1 (.int .i64 x.c.surv) rfl
  have k2 := ask_cell HX3.out 2 (.int .i64 x.c.ten) rfl
  have k3 := ask_cell HX3.out 3 (.int .i64 x.c.large) rfl
  have k4 := ask_cell HX3.out 4 (.int .i64 x.c.floor) rfl
  have k5 := ask_cell HX3.out 5 (.int .i64 x.c.num) rfl
  have k6 := ask_cell HX3.out 6 (.int .i64 x.c.den) rfl
  have k7 := ask_cell HX3.out 7 (.int .i64 x.c.target) rfl
  have k8 := ask_cell HX3.out 8 (.int .i64 x.c.maxAge) rfl
  have k9 := ask_cell HX3.out 9 (.int .i64 x.c.threads) rfl
  have k10 := ask_cell HX3.out 10 (.int .i64 x.c.slots) rfl
  have k11 := ask_cell HX3.out 11 (.int .i64 x.c.handles) rfl
  have k12 := ask_cell HX3.out 12 (.int .i64 x.c.buffer) rfl
  have k13 := ask_cell HX3.out 13 (.int .i64 x.c.workers) rfl
  have k14 := ask_cell HX3.out 14 (.int .i64 x.base) rfl
  have k15 := ask_cell HX3.out 15 (.int .i64 x.kind) rfl
  have k16 := ask_cell HX3.out 16 (.int .i64 x.words) rfl
  have q := rbegin_no Fx.out w3
  go_wp2_with fail
  refine q.mono ?_
  rintro e9 w4 ⟨rfl, r4⟩
  have HB4 : Hid (Below w0.heap.size w0 w4) := HB3.out.trans (r4.mono HB3.out.size)
  have HX4 : Hid (Abx w4 w.heap.size x) := HX3.out.below r4 (heap_lt HX3.out)
  have HY4 : Hid (Abx w4 (w.heap.size + 1) y) := HY3.out.below r4 (heap_lt HY3.out)
  have Hz4 : Hid (w3.heap.size ≤ w4.heap.size) := r4.size
  clear q k0 k1 k2 k3 k4 k5 k6 k7 k8 k9 k10 k11 k12 k13 k14 k15 k16 r4 HB3 HX3 HY3
  have k0 := ask_cell HY4.out 0 (.int .i64 y.c.eden) rfl
  have k1 := ask_cell HY4.out 1 (.int .i64 y.c.surv) rfl
  have k2 := ask_cell HY4.out 2 (.int .i64 y.c.ten) rfl
  have k3 := ask_cell HY4.out 3 (.int .i64 y.c.large) rfl
  have k4 := ask_cell HY4.out 4 (.int .i64 y.c.floor) rfl
  have k5 := ask_cell HY4.out 5 (.int .i64 y.c.num) rfl
  have k6 := ask_cell HY4.out 6 (.int .i64 y.c.den) rfl
  have k7 := ask_cell HY4.out 7 (.int .i64 y.c.target) rfl
  have k8 := ask_cell HY4.out 8 (.int .i64 y.c.maxAge) rfl
  have k9 := ask_cell HY4.out 9 (.int .i64 y.c.threads) rfl
  have k10 := ask_cell HY4.out 10 (.int .i64 y.c.slots) rfl
  have k11 := ask_cell HY4.out 11 (.int .i64 y.c.handles) rfl
  have k12 := ask_cell HY4.out 12 (.int .i64 y.c.buffer) rfl
  have k13 := ask_cell HY4.out 13 (.int .i64 y.c.workers) rfl
  have k14 := ask_cell HY4.out 14 (.int .i64 y.base) rfl
  have k15 := ask_cell HY4.out 15 (.int .i64 y.kind) rfl
  have k16 := ask_cell HY4.out 16 (.int .i64 y.words) rfl
  have q := rbegin_no Fy.out w4
  go_wp2_with fail
  refine q.mono ?_
  rintro e9 w5 ⟨rfl, r4⟩
  have HB5 : Hid (Below w0.heap.size w0 w5) := HB4.out.trans (r4.mono HB4.out.size)
  have HX5 : Hid (Abx w5 w.heap.size x) := HX4.out.below r4 (heap_lt HX4.out)
  have HY5 : Hid (Abx w5 (w.heap.size + 1) y) := HY4.out.below r4 (heap_lt HY4.out)
  have Hz5 : Hid (w4.heap.size ≤ w5.heap.size) := r4.size
  clear q k0 k1 k2 k3 k4 k5 k6 k7 k8 k9 k10 k11 k12 k13 k14 k15 k16 r4 HB4 HX4 HY4
  have HBW : Hid (Below w.heap.size w w5) := HW0.out.trans (HB5.out.mono HW0.out.size)
  generalize flt x.c x.base x.kind x.words = Nx at Fx ⊢
  have nx : (Nx != Nx) = false := by simp
  generalize flt y.c y.base y.kind y.words = Ny at Fy ⊢
  have ny : (Ny != Ny) = false := by simp
  go_wp2
  go_returns
  exact ⟨rfl, HBW.out⟩

set_option maxHeartbeats 8000000 in
theorem two_yn (x y : Ask) (w : World) (hx : AskIn w x) (hy : AskIn w y) (fx : flt x.c x.base x.kind x.words = 0) (fy : flt y.c y.base y.kind y.words ≠ 0) :
    Calls Try.prog 6 #[askv x, askv y] w fun e w' => e = .returned (.bool true) ∧ Below w.heap.size w w' := by
  obtain ⟨w0, hw0⟩ : ∃ q9, q9 = (w.alloc (.cells (acells x) 30)).alloc (.cells (acells y) 30) := ⟨_, rfl⟩
  have hX0 : Abx w0 w.heap.size x := by rw [hw0]; exact (Below.heap_alloc _ _ _ (by simp)).trans (heap_alloc_new w _)
  have hY0 : Abx w0 (w.heap.size + 1) y := by rw [hw0]; have h := heap_alloc_new (w.alloc (.cells (acells x) 30)) (.cells (acells y) 30); simpa [Abx] using h
  have hW0 : Below w.heap.size w w0 := by rw [hw0]; exact Below.alloc (Below.alloc (Below.refl _ _) (Nat.le_refl _) _) (by simp) _
  have hs0 : w0.heap.size = w.heap.size + 2 := by rw [hw0]; simp
  have HW0 : Hid (Below w.heap.size w w0) := hW0
  have Hs0 : Hid (w0.heap.size = w.heap.size + 2) := hs0
  have Fx : Hid (flt x.c x.base x.kind x.words = 0) := fx
  have Fy : Hid (flt y.c y.base y.kind y.words ≠ 0) := fy
  have HIx : Hid (AskIn w x) := hx
  have HIy : Hid (AskIn w y) := hy
  have HX0a : Hid (Abx w0 w.heap.size x) := hX0
  have HY0a : Hid (Abx w0 (w.heap.size + 1) y) := hY0
  have q := known_any w0
  clear hX0 hY0 hW0 hs0 hx hy fx fy
  go_enter Try.func6, Try.ntmps6
  go_upto_region 1 with fail
  rw [← hw0]
  clear hw0
  go_wp2_with fail
  refine q.mono ?_
  rintro e9 w1 ⟨rfl, r4⟩
  have HB1 : Hid (Below w0.heap.size w0 w1) := r4
  have HX1 : Hid (Abx w1 w.heap.size x) := HX0a.out.below r4 (heap_lt HX0a.out)
  have HY1 : Hid (Abx w1 (w.heap.size + 1) y) := HY0a.out.below r4 (heap_lt HY0a.out)
  have Hz1 : Hid (w0.heap.size ≤ w1.heap.size) := r4.size
  clear q r4 HX0a HY0a
  have k0 := ask_cell HX1.out 0 (.int .i64 x.c.eden) rfl
  have k1 := ask_cell HX1.out 1 (.int .i64 x.c.surv) rfl
  have k2 := ask_cell HX1.out 2 (.int .i64 x.c.ten) rfl
  have k3 := ask_cell HX1.out 3 (.int .i64 x.c.large) rfl
  have k4 := ask_cell HX1.out 4 (.int .i64 x.c.floor) rfl
  have k5 := ask_cell HX1.out 5 (.int .i64 x.c.num) rfl
  have k6 := ask_cell HX1.out 6 (.int .i64 x.c.den) rfl
  have k7 := ask_cell HX1.out 7 (.int .i64 x.c.target) rfl
  have k8 := ask_cell HX1.out 8 (.int .i64 x.c.maxAge) rfl
  have k9 := ask_cell HX1.out 9 (.int .i64 x.c.threads) rfl
  have k10 := ask_cell HX1.out 10 (.int .i64 x.c.slots) rfl
  have k11 := ask_cell HX1.out 11 (.int .i64 x.c.handles) rfl
  have k12 := ask_cell HX1.out 12 (.int .i64 x.c.buffer) rfl
  have k13 := ask_cell HX1.out 13 (.int .i64 x.c.workers) rfl
  have k14 := ask_cell HX1.out 14 (.int .i64 x.base) rfl
  have k15 := ask_cell HX1.out 15 (.int .i64 x.kind) rfl
  have k16 := ask_cell HX1.out 16 (.int .i64 x.words) rfl
  have q := pbegin_yes Fx.out w1
  go_wp2_with fail
  refine q.mono ?_
  rintro e9 w2 ⟨bs, gs, rfl, r1, r2, r3, r4⟩
  have HB2 : Hid (Below w0.heap.size w0 w2) := HB1.out.trans (r4.mono HB1.out.size)
  have HX2 : Hid (Abx w2 w.heap.size x) := HX1.out.below r4 (heap_lt HX1.out)
  have HY2 : Hid (Abx w2 (w.heap.size + 1) y) := HY1.out.below r4 (heap_lt HY1.out)
  have Hz2 : Hid (w1.heap.size ≤ w2.heap.size) := r4.size
  have HPs : Hid (Pt w2 w1.heap.size bs (.slice none 0 0) gs (tk x) t00 ∧ w1.heap.size ≤ bs ∧ w1.heap.size ≤ gs) := ⟨r3, r1, r2⟩
  clear q k0 k1 k2 k3 k4 k5 k6 k7 k8 k9 k10 k11 k12 k13 k14 k15 k16 r1 r2 r3 r4 HB1 HX1 HY1
  have k0 := ask_cell HY2.out 0 (.int .i64 y.c.eden) rfl
  have k1 := ask_cell HY2.out 1 (.int .i64 y.c.surv) rfl
  have k2 := ask_cell HY2.out 2 (.int .i64 y.c.ten) rfl
  have k3 := ask_cell HY2.out 3 (.int .i64 y.c.large) rfl
  have k4 := ask_cell HY2.out 4 (.int .i64 y.c.floor) rfl
  have k5 := ask_cell HY2.out 5 (.int .i64 y.c.num) rfl
  have k6 := ask_cell HY2.out 6 (.int .i64 y.c.den) rfl
  have k7 := ask_cell HY2.out 7 (.int .i64 y.c.target) rfl
  have k8 := ask_cell HY2.out 8 (.int .i64 y.c.maxAge) rfl
  have k9 := ask_cell HY2.out 9 (.int .i64 y.c.threads) rfl
  have k10 := ask_cell HY2.out 10 (.int .i64 y.c.slots) rfl
  have k11 := ask_cell HY2.out 11 (.int .i64 y.c.handles) rfl
  have k12 := ask_cell HY2.out 12 (.int .i64 y.c.buffer) rfl
  have k13 := ask_cell HY2.out 13 (.int .i64 y.c.workers) rfl
  have k14 := ask_cell HY2.out 14 (.int .i64 y.base) rfl
  have k15 := ask_cell HY2.out 15 (.int .i64 y.kind) rfl
  have k16 := ask_cell HY2.out 16 (.int .i64 y.words) rfl
  have q := pbegin_no Fy.out w2
  go_wp2_with fail
  refine q.mono ?_
  rintro e9 w3 ⟨rfl, r4⟩
  have HB3 : Hid (Below w0.heap.size w0 w3) := HB2.out.trans (r4.mono HB2.out.size)
  have HX3 : Hid (Abx w3 w.heap.size x) := HX2.out.below r4 (heap_lt HX2.out)
  have HY3 : Hid (Abx w3 (w.heap.size + 1) y) := HY2.out.below r4 (heap_lt HY2.out)
  have Hz3 : Hid (w2.heap.size ≤ w3.heap.size) := r4.size
  clear q k0 k1 k2 k3 k4 k5 k6 k7 k8 k9 k10 k11 k12 k13 k14 k15 k16 r4 HB2 HX2 HY2
  have k0 := ask_cell HX3.out 0 (.int .i64 x.c.eden) rfl
  have k1 := ask_cell HX3.out 1 (.int .i64 x.c.surv) rfl
  have k2 := ask_cell HX3.out 2 (.int .i64 x.c.ten) rfl
  have k3 := ask_cell HX3.out 3 (.int .i64 x.c.large) rfl
  have k4 := ask_cell HX3.out 4 (.int .i64 x.c.floor) rfl
  have k5 := ask_cell HX3.out 5 (.int .i64 x.c.num) rfl
  have k6 := ask_cell HX3.out 6 (.int .i64 x.c.den) rfl
  have k7 := ask_cell HX3.out 7 (.int .i64 x.c.target) rfl
  have k8 := ask_cell HX3.out 8 (.int .i64 x.c.maxAge) rfl
  have k9 := ask_cell HX3.out 9 (.int .i64 x.c.threads) rfl
  have k10 := ask_cell HX3.out 10 (.int .i64 x.c.slots) rfl
  have k11 := ask_cell HX3.out 11 (.int .i64 x.c.handles) rfl
  have k12 := ask_cell HX3.out 12 (.int .i64 x.c.buffer) rfl
  have k13 := ask_cell HX3.out 13 (.int .i64 x.c.workers) rfl
  have k14 := ask_cell HX3.out 14 (.int .i64 x.base) rfl
  have k15 := ask_cell HX3.out 15 (.int .i64 x.kind) rfl
  have k16 := ask_cell HX3.out 16 (.int .i64 x.words) rfl
  have q := rbegin_yes Fx.out w3
  go_wp2_with fail
  refine q.mono ?_
  rintro e9 w4 ⟨bv, rfl, r1, r3, r4⟩
  have HB4 : Hid (Below w0.heap.size w0 w4) := HB3.out.trans (r4.mono HB3.out.size)
  have HX4 : Hid (Abx w4 w.heap.size x) := HX3.out.below r4 (heap_lt HX3.out)
  have HY4 : Hid (Abx w4 (w.heap.size + 1) y) := HY3.out.below r4 (heap_lt HY3.out)
  have Hz4 : Hid (w3.heap.size ≤ w4.heap.size) := r4.size
  have HPv : Hid (Rf w4 w3.heap.size bv (.slice none 0 0) x.c (tk x) t00 ∧ w3.heap.size ≤ bv) := ⟨r3, r1⟩
  clear q k0 k1 k2 k3 k4 k5 k6 k7 k8 k9 k10 k11 k12 k13 k14 k15 k16 r1 r3 r4 HB3 HX3 HY3
  have k0 := ask_cell HY4.out 0 (.int .i64 y.c.eden) rfl
  have k1 := ask_cell HY4.out 1 (.int .i64 y.c.surv) rfl
  have k2 := ask_cell HY4.out 2 (.int .i64 y.c.ten) rfl
  have k3 := ask_cell HY4.out 3 (.int .i64 y.c.large) rfl
  have k4 := ask_cell HY4.out 4 (.int .i64 y.c.floor) rfl
  have k5 := ask_cell HY4.out 5 (.int .i64 y.c.num) rfl
  have k6 := ask_cell HY4.out 6 (.int .i64 y.c.den) rfl
  have k7 := ask_cell HY4.out 7 (.int .i64 y.c.target) rfl
  have k8 := ask_cell HY4.out 8 (.int .i64 y.c.maxAge) rfl
  have k9 := ask_cell HY4.out 9 (.int .i64 y.c.threads) rfl
  have k10 := ask_cell HY4.out 10 (.int .i64 y.c.slots) rfl
  have k11 := ask_cell HY4.out 11 (.int .i64 y.c.handles) rfl
  have k12 := ask_cell HY4.out 12 (.int .i64 y.c.buffer) rfl
  have k13 := ask_cell HY4.out 13 (.int .i64 y.c.workers) rfl
  have k14 := ask_cell HY4.out 14 (.int .i64 y.base) rfl
  have k15 := ask_cell HY4.out 15 (.int .i64 y.kind) rfl
  have k16 := ask_cell HY4.out 16 (.int .i64 y.words) rfl
  have q := rbegin_no Fy.out w4
  go_wp2_with fail
  refine q.mono ?_
  rintro e9 w5 ⟨rfl, r4⟩
  have HB5 : Hid (Below w0.heap.size w0 w5) := HB4.out.trans (r4.mono HB4.out.size)
  have HX5 : Hid (Abx w5 w.heap.size x) := HX4.out.below r4 (heap_lt HX4.out)
  have HY5 : Hid (Abx w5 (w.heap.size + 1) y) := HY4.out.below r4 (heap_lt HY4.out)
  have Hz5 : Hid (w4.heap.size ≤ w5.heap.size) := r4.size
  clear q k0 k1 k2 k3 k4 k5 k6 k7 k8 k9 k10 k11 k12 k13 k14 k15 k16 r4 HB4 HX4 HY4
  have HBW : Hid (Below w.heap.size w w5) := HW0.out.trans (HB5.out.mono HW0.out.size)
  generalize flt y.c y.base y.kind y.words = Ny at Fy ⊢
  have ny : (Ny != Ny) = false := by simp
  go_wp2
  go_returns
  exact ⟨rfl, HBW.out⟩

set_option maxHeartbeats 8000000 in
theorem two_ny (x y : Ask) (w : World) (hx : AskIn w x) (hy : AskIn w y) (fx : flt x.c x.base x.kind x.words ≠ 0) (fy : flt y.c y.base y.kind y.words = 0) :
    Calls Try.prog 6 #[askv x, askv y] w fun e w' => e = .returned (.bool true) ∧ Below w.heap.size w w' := by
  obtain ⟨w0, hw0⟩ : ∃ q9, q9 = (w.alloc (.cells (acells x) 30)).alloc (.cells (acells y) 30) := ⟨_, rfl⟩
  have hX0 : Abx w0 w.heap.size x := by rw [hw0]; exact (Below.heap_alloc _ _ _ (by simp)).trans (heap_alloc_new w _)
  have hY0 : Abx w0 (w.heap.size + 1) y := by rw [hw0]; have h := heap_alloc_new (w.alloc (.cells (acells x) 30)) (.cells (acells y) 30); simpa [Abx] using h
  have hW0 : Below w.heap.size w w0 := by rw [hw0]; exact Below.alloc (Below.alloc (Below.refl _ _) (Nat.le_refl _) _) (by simp) _
  have hs0 : w0.heap.size = w.heap.size + 2 := by rw [hw0]; simp
  have HW0 : Hid (Below w.heap.size w w0) := hW0
  have Hs0 : Hid (w0.heap.size = w.heap.size + 2) := hs0
  have Fx : Hid (flt x.c x.base x.kind x.words ≠ 0) := fx
  have Fy : Hid (flt y.c y.base y.kind y.words = 0) := fy
  have HIx : Hid (AskIn w x) := hx
  have HIy : Hid (AskIn w y) := hy
  have HX0a : Hid (Abx w0 w.heap.size x) := hX0
  have HY0a : Hid (Abx w0 (w.heap.size + 1) y) := hY0
  have q := known_any w0
  clear hX0 hY0 hW0 hs0 hx hy fx fy
  go_enter Try.func6, Try.ntmps6
  go_upto_region 1 with fail
  rw [← hw0]
  clear hw0
  go_wp2_with fail
  refine q.mono ?_
  rintro e9 w1 ⟨rfl, r4⟩
  have HB1 : Hid (Below w0.heap.size w0 w1) := r4
  have HX1 : Hid (Abx w1 w.heap.size x) := HX0a.out.below r4 (heap_lt HX0a.out)
  have HY1 : Hid (Abx w1 (w.heap.size + 1) y) := HY0a.out.below r4 (heap_lt HY0a.out)
  have Hz1 : Hid (w0.heap.size ≤ w1.heap.size) := r4.size
  clear q r4 HX0a HY0a
  have k0 := ask_cell HX1.out 0 (.int .i64 x.c.eden) rfl
  have k1 := ask_cell HX1.out 1 (.int .i64 x.c.surv) rfl
  have k2 := ask_cell HX1.out 2 (.int .i64 x.c.ten) rfl
  have k3 := ask_cell HX1.out 3 (.int .i64 x.c.large) rfl
  have k4 := ask_cell HX1.out 4 (.int .i64 x.c.floor) rfl
  have k5 := ask_cell HX1.out 5 (.int .i64 x.c.num) rfl
  have k6 := ask_cell HX1.out 6 (.int .i64 x.c.den) rfl
  have k7 := ask_cell HX1.out 7 (.int .i64 x.c.target) rfl
  have k8 := ask_cell HX1.out 8 (.int .i64 x.c.maxAge) rfl
  have k9 := ask_cell HX1.out 9 (.int .i64 x.c.threads) rfl
  have k10 := ask_cell HX1.out 10 (.int .i64 x.c.slots) rfl
  have k11 := ask_cell HX1.out 11 (.int .i64 x.c.handles) rfl
  have k12 := ask_cell HX1.out 12 (.int .i64 x.c.buffer) rfl
  have k13 := ask_cell HX1.out 13 (.int .i64 x.c.workers) rfl
  have k14 := ask_cell HX1.out 14 (.int .i64 x.base) rfl
  have k15 := ask_cell HX1.out 15 (.int .i64 x.kind) rfl
  have k16 := ask_cell HX1.out 16 (.int .i64 x.words) rfl
  have q := pbegin_no Fx.out w1
  go_wp2_with fail
  refine q.mono ?_
  rintro e9 w2 ⟨rfl, r4⟩
  have HB2 : Hid (Below w0.heap.size w0 w2) := HB1.out.trans (r4.mono HB1.out.size)
  have HX2 : Hid (Abx w2 w.heap.size x) := HX1.out.below r4 (heap_lt HX1.out)
  have HY2 : Hid (Abx w2 (w.heap.size + 1) y) := HY1.out.below r4 (heap_lt HY1.out)
  have Hz2 : Hid (w1.heap.size ≤ w2.heap.size) := r4.size
  clear q k0 k1 k2 k3 k4 k5 k6 k7 k8 k9 k10 k11 k12 k13 k14 k15 k16 r4 HB1 HX1 HY1
  have k0 := ask_cell HY2.out 0 (.int .i64 y.c.eden) rfl
  have k1 := ask_cell HY2.out 1 (.int .i64 y.c.surv) rfl
  have k2 := ask_cell HY2.out 2 (.int .i64 y.c.ten) rfl
  have k3 := ask_cell HY2.out 3 (.int .i64 y.c.large) rfl
  have k4 := ask_cell HY2.out 4 (.int .i64 y.c.floor) rfl
  have k5 := ask_cell HY2.out 5 (.int .i64 y.c.num) rfl
  have k6 := ask_cell HY2.out 6 (.int .i64 y.c.den) rfl
  have k7 := ask_cell HY2.out 7 (.int .i64 y.c.target) rfl
  have k8 := ask_cell HY2.out 8 (.int .i64 y.c.maxAge) rfl
  have k9 := ask_cell HY2.out 9 (.int .i64 y.c.threads) rfl
  have k10 := ask_cell HY2.out 10 (.int .i64 y.c.slots) rfl
  have k11 := ask_cell HY2.out 11 (.int .i64 y.c.handles) rfl
  have k12 := ask_cell HY2.out 12 (.int .i64 y.c.buffer) rfl
  have k13 := ask_cell HY2.out 13 (.int .i64 y.c.workers) rfl
  have k14 := ask_cell HY2.out 14 (.int .i64 y.base) rfl
  have k15 := ask_cell HY2.out 15 (.int .i64 y.kind) rfl
  have k16 := ask_cell HY2.out 16 (.int .i64 y.words) rfl
  have q := pbegin_yes Fy.out w2
  go_wp2_with fail
  refine q.mono ?_
  rintro e9 w3 ⟨bt, gt, rfl, r1, r2, r3, r4⟩
  have HB3 : Hid (Below w0.heap.size w0 w3) := HB2.out.trans (r4.mono HB2.out.size)
  have HX3 : Hid (Abx w3 w.heap.size x) := HX2.out.below r4 (heap_lt HX2.out)
  have HY3 : Hid (Abx w3 (w.heap.size + 1) y) := HY2.out.below r4 (heap_lt HY2.out)
  have Hz3 : Hid (w2.heap.size ≤ w3.heap.size) := r4.size
  have HPt : Hid (Pt w3 w2.heap.size bt (.slice none 0 0) gt (tk y) t00 ∧ w2.heap.size ≤ bt ∧ w2.heap.size ≤ gt) := ⟨r3, r1, r2⟩
  clear q k0 k1 k2 k3 k4 k5 k6 k7 k8 k9 k10 k11 k12 k13 k14 k15 k16 r1 r2 r3 r4 HB2 HX2 HY2
  have k0 := ask_cell HX3.out 0 (.int .i64 x.c.eden) rfl
  have k1 := ask_cell HX3.out 1 (.int .i64 x.c.surv) rfl
  have k2 := ask_cell HX3.out 2 (.int .i64 x.c.ten) rfl
  have k3 := ask_cell HX3.out 3 (.int .i64 x.c.large) rfl
  have k4 := ask_cell HX3.out 4 (.int .i64 x.c.floor) rfl
  have k5 := ask_cell HX3.out 5 (.int .i64 x.c.num) rfl
  have k6 := ask_cell HX3.out 6 (.int .i64 x.c.den) rfl
  have k7 := ask_cell HX3.out 7 (.int .i64 x.c.target) rfl
  have k8 := ask_cell HX3.out 8 (.int .i64 x.c.maxAge) rfl
  have k9 := ask_cell HX3.out 9 (.int .i64 x.c.threads) rfl
  have k10 := ask_cell HX3.out 10 (.int .i64 x.c.slots) rfl
  have k11 := ask_cell HX3.out 11 (.int .i64 x.c.handles) rfl
  have k12 := ask_cell HX3.out 12 (.int .i64 x.c.buffer) rfl
  have k13 := ask_cell HX3.out 13 (.int .i64 x.c.workers) rfl
  have k14 := ask_cell HX3.out 14 (.int .i64 x.base) rfl
  have k15 := ask_cell HX3.out 15 (.int .i64 x.kind) rfl
  have k16 := ask_cell HX3.out 16 (.int .i64 x.words) rfl
  have q := rbegin_no Fx.out w3
  go_wp2_with fail
  refine q.mono ?_
  rintro e9 w4 ⟨rfl, r4⟩
  have HB4 : Hid (Below w0.heap.size w0 w4) := HB3.out.trans (r4.mono HB3.out.size)
  have HX4 : Hid (Abx w4 w.heap.size x) := HX3.out.below r4 (heap_lt HX3.out)
  have HY4 : Hid (Abx w4 (w.heap.size + 1) y) := HY3.out.below r4 (heap_lt HY3.out)
  have Hz4 : Hid (w3.heap.size ≤ w4.heap.size) := r4.size
  clear q k0 k1 k2 k3 k4 k5 k6 k7 k8 k9 k10 k11 k12 k13 k14 k15 k16 r4 HB3 HX3 HY3
  have k0 := ask_cell HY4.out 0 (.int .i64 y.c.eden) rfl
  have k1 := ask_cell HY4.out 1 (.int .i64 y.c.surv) rfl
  have k2 := ask_cell HY4.out 2 (.int .i64 y.c.ten) rfl
  have k3 := ask_cell HY4.out 3 (.int .i64 y.c.large) rfl
  have k4 := ask_cell HY4.out 4 (.int .i64 y.c.floor) rfl
  have k5 := ask_cell HY4.out 5 (.int .i64 y.c.num) rfl
  have k6 := ask_cell HY4.out 6 (.int .i64 y.c.den) rfl
  have k7 := ask_cell HY4.out 7 (.int .i64 y.c.target) rfl
  have k8 := ask_cell HY4.out 8 (.int .i64 y.c.maxAge) rfl
  have k9 := ask_cell HY4.out 9 (.int .i64 y.c.threads) rfl
  have k10 := ask_cell HY4.out 10 (.int .i64 y.c.slots) rfl
  have k11 := ask_cell HY4.out 11 (.int .i64 y.c.handles) rfl
  have k12 := ask_cell HY4.out 12 (.int .i64 y.c.buffer) rfl
  have k13 := ask_cell HY4.out 13 (.int .i64 y.c.workers) rfl
  have k14 := ask_cell HY4.out 14 (.int .i64 y.base) rfl
  have k15 := ask_cell HY4.out 15 (.int .i64 y.kind) rfl
  have k16 := ask_cell HY4.out 16 (.int .i64 y.words) rfl
  have q := rbegin_yes Fy.out w4
  go_wp2_with fail
  refine q.mono ?_
  rintro e9 w5 ⟨bu, rfl, r1, r3, r4⟩
  have HB5 : Hid (Below w0.heap.size w0 w5) := HB4.out.trans (r4.mono HB4.out.size)
  have HX5 : Hid (Abx w5 w.heap.size x) := HX4.out.below r4 (heap_lt HX4.out)
  have HY5 : Hid (Abx w5 (w.heap.size + 1) y) := HY4.out.below r4 (heap_lt HY4.out)
  have Hz5 : Hid (w4.heap.size ≤ w5.heap.size) := r4.size
  have HPu : Hid (Rf w5 w4.heap.size bu (.slice none 0 0) y.c (tk y) t00 ∧ w4.heap.size ≤ bu) := ⟨r3, r1⟩
  clear q k0 k1 k2 k3 k4 k5 k6 k7 k8 k9 k10 k11 k12 k13 k14 k15 k16 r1 r3 r4 HB4 HX4 HY4
  have HBW : Hid (Below w.heap.size w w5) := HW0.out.trans (HB5.out.mono HW0.out.size)
  generalize flt x.c x.base x.kind x.words = Nx at Fx ⊢
  have nx : (Nx != Nx) = false := by simp
  go_wp2
  go_returns
  exact ⟨rfl, HBW.out⟩

end Go.Proofs.Ytcijdbhabbepaaa.Po
