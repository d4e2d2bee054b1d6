/-
  PolicyTwo: its walk, where both turns are made. (mkPT2.py prints this text.)
-/
import Derived.Test.YtcijdbhabbepaaaPT2
set_option linter.unusedVariables false
set_option maxRecDepth 20000
namespace Go.Proofs.Ytcijdbhabbepaaa.Po
open Go.RowKit Go.Proofs.Ytcijdbhabbepaaa.Kg

theorem Pt.base {w : World} {b1 b2 b : Nat} {v : Value} {g : Nat} {k : Task} {t : Tst} (h : Pt w b1 b v g k t) (hl : b2 ≤ b1) : Pt w b2 b v g k t :=
  ⟨h.at_, row_base h.row hl, h.box, h.gv, h.gl, Nat.le_trans hl h.lo, h.le⟩
theorem Rf.base {w : World} {b1 b2 b : Nat} {v : Value} {c : Cfg} {k : Task} {t : Tst} (h : Rf w b1 b v c k t) (hl : b2 ≤ b1) : Rf w b2 b v c k t :=
  ⟨h.at_, row_base h.row hl, Nat.le_trans hl h.lo, h.le⟩

theorem Hid.mk9 {P : Prop} (h : P) : Hid P := h

/-- What the loop keeps. -/
structure Two (n0 : Nat) (w : World) (x y : Ask) (bs bt bv bu gs gt : Nat) (tx ty : Tst) : Prop where
  ex : ∃ us ut uv uu, Q4 n0 w (Fq bs us gs) (Fq bt ut gt) (Fp bv uv) (Fp bu uu) (fun w => Pt w n0 bs us gs (tk x) tx) (fun w => Pt w n0 bt ut gt (tk y) ty) (fun w => Rf w n0 bv uv x.c (tk x) tx) (fun w => Rf w n0 bu uu y.c (tk y) ty)
  gx : Go12 (tk x) tx
  gy : Go12 (tk y) ty

set_option maxHeartbeats 8000000 in
theorem two_yy (x y : Ask) (w : World) (hx : AskIn w x) (hy : AskIn w y) (fx : flt x.c x.base x.kind x.words = 0) (fy : flt y.c y.base y.kind y.words = 0) :
    Calls Try.prog 6 #[askv x, askv y] w fun e w' => e = .returned (.bool true) ∧ Below w.heap.size w w' := by
  obtain ⟨w0, hw0⟩ : ∃ q9, q9 = (w.alloc (.cells (acells x) 30)).alloc (.cells (acells y) 30) := ⟨_, rfl⟩
  have hX0 : Abx w0 w.heap.size x := by rw [hw0]; exact (Below.heap_alloc _ _ _ (by simp)).trans (heap_alloc_new w _)
  have hY0 : Abx w0 (w.heap.size + 1) y := by rw [hw0]; have h := heap_alloc_new (w.alloc (.cells (acells x) 30)) (.cells (acells y) 30); simpa [Abx] using h
  have hW0 : Below w.heap.size w w0 := by rw [hw0]; exact Below.alloc (Below.alloc (Below.refl _ _) (Nat.le_refl _) _) (by simp) _
  have hs0 : w0.heap.size = w.heap.size + 2 := by rw [hw0]; simp
  have HW0 : Hid (Below w.heap.size w w0) := hW0
  have Hs0 : Hid (w0.heap.size = w.heap.size + 2) := hs0
  have Fx : Hid (flt x.c x.base x.kind x.words = 0) := fx
  have Fy : Hid (flt y.c y.base y.kind y.words = 0) := fy
  have HIx : Hid (AskIn w x) := hx
  have HIy : Hid (AskIn w y) := hy
  have HX0a : Hid (Abx w0 w.heap.size x) := hX0
  have HY0a : Hid (Abx w0 (w.heap.size + 1) y) := hY0
  have q := known_any w0
  clear hX0 hY0 hW0 hs0 hx hy fx fy
  go_enter Try.func6, Try.ntmps6
  go_upto_region 1 with fail
  rw [← hw0]
  clear hw0
  go_wp2_with fail
  refine q.mono ?_
  rintro e9 w1 ⟨rfl, r4⟩
  have HB1 : Hid (Below w0.heap.size w0 w1) := r4
  have HX1 : Hid (Abx w1 w.heap.size x) := HX0a.out.below r4 (heap_lt HX0a.out)
  have HY1 : Hid (Abx w1 (w.heap.size + 1) y) := HY0a.out.below r4 (heap_lt HY0a.out)
  have Hz1 : Hid (w0.heap.size ≤ w1.heap.size) := r4.size
  clear q r4 HX0a HY0a
  have k0 := ask_cell HX1.out 0 (.int .i64 x.c.eden) rfl
  have k1 := ask_cell HX1.out 1 (.int .i64 x.c.surv) rfl
  have k2 := ask_cell HX1.out 2 (.int .i64 x.c.ten) rfl
  have k3 := ask_cell HX1.out 3 (.int .i64 x.c.large) rfl
  have k4 := ask_cell HX1.out 4 (.int .i64 x.c.floor) rfl
  have k5 := ask_cell HX1.out 5 (.int .i64 x.c.num) rfl
  have k6 := ask_cell HX1.out 6 (.int .i64 x.c.den) rfl
  have k7 := ask_cell HX1.out 7 (.int .i64 x.c.target) rfl
  have k8 := ask_cell HX1.out 8 (.int .i64 x.c.maxAge) rfl
  have k9 := ask_cell HX1.out 9 (.int .i64 x.c.threads) rfl
  have k10 := ask_cell HX1.out 10 (.int .i64 x.c.slots) rfl
  have k11 := ask_cell HX1.out 11 (.int .i64 x.c.handles) rfl
  have k12 := ask_cell HX1.out 12 (.int .i64 x.c.buffer) rfl
  have k13 := ask_cell HX1.out 13 (.int .i64 x.c.workers) rfl
  have k14 := ask_cell HX1.out 14 (.int .i64 x.base) rfl
  have k15 := ask_cell HX1.out 15 (.int .i64 x.kind) rfl
  have k16 := ask_cell HX1.out 16 (.int .i64 x.words) rfl
  have q := pbegin_yes Fx.out w1
  go_wp2_with fail
  refine q.mono ?_
  rintro e9 w2 ⟨bs, gs, rfl, r1, r2, r3, r4⟩
  have HB2 : Hid (Below w0.heap.size w0 w2) := HB1.out.trans (r4.mono HB1.out.size)
  have HX2 : Hid (Abx w2 w.heap.size x) := HX1.out.below r4 (heap_lt HX1.out)
  have HY2 : Hid (Abx w2 (w.heap.size + 1) y) := HY1.out.below r4 (heap_lt HY1.out)
  have Hz2 : Hid (w1.heap.size ≤ w2.heap.size) := r4.size
  have HPs : Hid (Pt w2 w1.heap.size bs (.slice none 0 0) gs (tk x) t00 ∧ w1.heap.size ≤ bs ∧ w1.heap.size ≤ gs) := ⟨r3, r1, r2⟩
  clear q k0 k1 k2 k3 k4 k5 k6 k7 k8 k9 k10 k11 k12 k13 k14 k15 k16 r1 r2 r3 r4 HB1 HX1 HY1
  have k0 := ask_cell HY2.out 0 (.int .i64 y.c.eden) rfl
  have k1 := ask_cell HY2.out 1 (.int .i64 y.c.surv) rfl
  have k2 := ask_cell HY2.out 2 (.int .i64 y.c.ten) rfl
  have k3 := ask_cell HY2.out 3 (.int .i64 y.c.large) rfl
  have k4 := ask_cell HY2.out 4 (.int .i64 y.c.floor) rfl
  have k5 := ask_cell HY2.out 5 (.int .i64 y.c.num) rfl
  have k6 := ask_cell HY2.out 6 (.int .i64 y.c.den) rfl
  have k7 := ask_cell HY2.out 7 (.int .i64 y.c.target) rfl
  have k8 := ask_cell HY2.out 8 (.int .i64 y.c.maxAge) rfl
  have k9 := ask_cell HY2.out 9 (.int .i64 y.c.threads) rfl
  have k10 := ask_cell HY2.out 10 (.int .i64 y.c.slots) rfl
  have k11 := ask_cell HY2.out 11 (.int .i64 y.c.handles) rfl
  have k12 := ask_cell HY2.out 12 (.int .i64 y.c.buffer) rfl
  have k13 := ask_cell HY2.out 13 (.int .i64 y.c.workers) rfl
  have k14 := ask_cell HY2.out 14 (.int .i64 y.base) rfl
  have k15 := ask_cell HY2.out 15 (.int .i64 y.kind) rfl
  have k16 := ask_cell HY2.out 16 (.int .i64 y.words) rfl
  have q := pbegin_yes Fy.out w2
  go_wp2_with fail
  refine q.mono ?_
  rintro e9 w3 ⟨bt, gt, rfl, r1, r2, r3, r4⟩
  have HB3 : Hid (Below w0.heap.size w0 w3) := HB2.out.trans (r4.mono HB2.out.size)
  have HX3 : Hid (Abx w3 w.heap.size x) := HX2.out.below r4 (heap_lt HX2.out)
  have HY3 : Hid (Abx w3 (w.heap.size + 1) y) := HY2.out.below r4 (heap_lt HY2.out)
  have Hz3 : Hid (w2.heap.size ≤ w3.heap.size) := r4.size
  have HPt : Hid (Pt w3 w2.heap.size bt (.slice none 0 0) gt (tk y) t00 ∧ w2.heap.size ≤ bt ∧ w2.heap.size ≤ gt) := ⟨r3, r1, r2⟩
  have BD2 : Hid (Below w2.heap.size w2 w3) := r4
  clear q k0 k1 k2 k3 k4 k5 k6 k7 k8 k9 k10 k11 k12 k13 k14 k15 k16 r1 r2 r3 r4 HB2 HX2 HY2
  have k0 := ask_cell HX3.out 0 (.int .i64 x.c.eden) rfl
  have k1 := ask_cell HX3.out 1 (.int .i64 x.c.surv) rfl
  have k2 := ask_cell HX3.out 2 (.int .i64 x.c.ten) rfl
  have k3 := ask_cell HX3.out 3 (.int .i64 x.c.large) rfl
  have k4 := ask_cell HX3.out 4 (.int .i64 x.c.floor) rfl
  have k5 := ask_cell HX3.out 5 (.int .i64 x.c.num) rfl
  have k6 := ask_cell HX3.out 6 (.int .i64 x.c.den) rfl
  have k7 := ask_cell HX3.out 7 (.int .i64 x.c.target) rfl
  have k8 := ask_cell HX3.out 8 (.int .i64 x.c.maxAge) rfl
  have k9 := ask_cell HX3.out 9 (.int .i64 x.c.threads) rfl
  have k10 := ask_cell HX3.out 10 (.int .i64 x.c.slots) rfl
  have k11 := ask_cell HX3.out 11 (.int .i64 x.c.handles) rfl
  have k12 := ask_cell HX3.out 12 (.int .i64 x.c.buffer) rfl
  have k13 := ask_cell HX3.out 13 (.int .i64 x.c.workers) rfl
  have k14 := ask_cell HX3.out 14 (.int .i64 x.base) rfl
  have k15 := ask_cell HX3.out 15 (.int .i64 x.kind) rfl
  have k16 := ask_cell HX3.out 16 (.int .i64 x.words) rfl
  have q := rbegin_yes Fx.out w3
  go_wp2_with fail
  refine q.mono ?_
  rintro e9 w4 ⟨bv, rfl, r1, r3, r4⟩
  have HB4 : Hid (Below w0.heap.size w0 w4) := HB3.out.trans (r4.mono HB3.out.size)
  have HX4 : Hid (Abx w4 w.heap.size x) := HX3.out.below r4 (heap_lt HX3.out)
  have HY4 : Hid (Abx w4 (w.heap.size + 1) y) := HY3.out.below r4 (heap_lt HY3.out)
  have Hz4 : Hid (w3.heap.size ≤ w4.heap.size) := r4.size
  have HPv : Hid (Rf w4 w3.heap.size bv (.slice none 0 0) x.c (tk x) t00 ∧ w3.heap.size ≤ bv) := ⟨r3, r1⟩
  have BC3 : Hid (Below w3.heap.size w3 w4) := r4
  have BC2 : Hid (Below w2.heap.size w2 w4) := BD2.out.trans (r4.mono BD2.out.size)
  clear q k0 k1 k2 k3 k4 k5 k6 k7 k8 k9 k10 k11 k12 k13 k14 k15 k16 r1 r3 r4 HB3 HX3 HY3 BD2
  have k0 := ask_cell HY4.out 0 (.int .i64 y.c.eden) rfl
  have k1 := ask_cell HY4.out 1 (.int .i64 y.c.surv) rfl
  have k2 := ask_cell HY4.out 2 (.int .i64 y.c.ten) rfl
  have k3 := ask_cell HY4.out 3 (.int .i64 y.c.large) rfl
  have k4 := ask_cell HY4.out 4 (.int .i64 y.c.floor) rfl
  have k5 := ask_cell HY4.out 5 (.int .i64 y.c.num) rfl
  have k6 := ask_cell HY4.out 6 (.int .i64 y.c.den) rfl
  have k7 := ask_cell HY4.out 7 (.int .i64 y.c.target) rfl
  have k8 := ask_cell HY4.out 8 (.int .i64 y.c.maxAge) rfl
  have k9 := ask_cell HY4.out 9 (.int .i64 y.c.threads) rfl
  have k10 := ask_cell HY4.out 10 (.int .i64 y.c.slots) rfl
  have k11 := ask_cell HY4.out 11 (.int .i64 y.c.handles) rfl
  have k12 := ask_cell HY4.out 12 (.int .i64 y.c.buffer) rfl
  have k13 := ask_cell HY4.out 13 (.int .i64 y.c.workers) rfl
  have k14 := ask_cell HY4.out 14 (.int .i64 y.base) rfl
  have k15 := ask_cell HY4.out 15 (.int .i64 y.kind) rfl
  have k16 := ask_cell HY4.out 16 (.int .i64 y.words) rfl
  have q := rbegin_yes Fy.out w4
  go_wp2_with fail
  refine q.mono ?_
  rintro e9 w5 ⟨bu, rfl, r1, r3, r4⟩
  have HB5 : Hid (Below w0.heap.size w0 w5) := HB4.out.trans (r4.mono HB4.out.size)
  have HX5 : Hid (Abx w5 w.heap.size x) := HX4.out.below r4 (heap_lt HX4.out)
  have HY5 : Hid (Abx w5 (w.heap.size + 1) y) := HY4.out.below r4 (heap_lt HY4.out)
  have Hz5 : Hid (w4.heap.size ≤ w5.heap.size) := r4.size
  have HPu : Hid (Rf w5 w4.heap.size bu (.slice none 0 0) y.c (tk y) t00 ∧ w4.heap.size ≤ bu) := ⟨r3, r1⟩
  have BB4 : Hid (Below w4.heap.size w4 w5) := r4
  have BB3 : Hid (Below w3.heap.size w3 w5) := BC3.out.trans (r4.mono BC3.out.size)
  have BB2 : Hid (Below w2.heap.size w2 w5) := BC2.out.trans (r4.mono BC2.out.size)
  clear q k0 k1 k2 k3 k4 k5 k6 k7 k8 k9 k10 k11 k12 k13 k14 k15 k16 r1 r3 r4 HB4 HX4 HY4 BC2 BC3
  have hn1 : w0.heap.size ≤ w1.heap.size := Hz1.out
  have hn2 : w1.heap.size ≤ w2.heap.size := Hz2.out
  have hn3 : w2.heap.size ≤ w3.heap.size := Hz3.out
  have hn4 : w3.heap.size ≤ w4.heap.size := Hz4.out
  have hn5 : w4.heap.size ≤ w5.heap.size := Hz5.out
  have HQ : Hid (Two w0.heap.size w5 x y bs bt bv bu gs gt t00 t00) := by
    obtain ⟨p1, p2, p3⟩ := HPs.out
    obtain ⟨q1, q2, q3⟩ := HPt.out
    obtain ⟨r1, r2⟩ := HPv.out
    obtain ⟨s1, s2⟩ := HPu.out
    have z1 := p1.lt; have z2 := p1.gl; have z3 := q1.lt; have z4 := q1.gl; have z5 := r1.lt
    have B23 : Below w2.heap.size w2 w5 := BB2.out
    have B33 : Below w3.heap.size w3 w5 := BB3.out
    have B43 : Below w4.heap.size w4 w5 := BB4.out
    refine ⟨⟨.slice none 0 0, .slice none 0 0, .slice none 0 0, .slice none 0 0, ⟨stb_pt _ _ _ _ _ _, stb_pt _ _ _ _ _ _, stb_rf _ _ _ _ _ _, stb_rf _ _ _ _ _ _, (p1.below B23).base (by omega), (q1.below B33).base (by omega), (r1.below B43).base (by omega), s1.base (by omega), ?_, ?_, ?_, ?_, ?_, ?_, ?_, ?_, ?_, ?_⟩⟩, Go12.start (flt_ok Fx.out).2.1, Go12.start (flt_ok Fy.out).2.1⟩
    all_goals
      intro q hq
      simp only [Fq, Fp, Value.ownBlock, Option.toList, List.mem_cons, List.not_mem_nil, or_false] at hq
      first
        | omega
        | (intro hr; simp only [Fq, Fp, Value.ownBlock, Option.toList, List.mem_cons, List.not_mem_nil, or_false] at hr; omega)
  have Hn : Hid (w0.heap.size ≤ w5.heap.size) := (by omega : w0.heap.size ≤ w5.heap.size)
  clear HPs HPt HPv HPu hn1 hn2 hn3 hn4 hn5 Hz1 Hz2 Hz3 Hz4 Hz5 BB2 BB3 BB4
  go_upto_region 12 with fail
  have HBW0 : Hid (∀ wr, Below w0.heap.size w0 wr → Below w.heap.size w wr) := fun wr h => HW0.out.trans (h.mono HW0.out.size)
  have Tx : Hid (Tof (tk x) ∧ Tok x.c (tk x)) := ⟨tof_mk Fx.out HIx.out.ws, tok_mk Fx.out HIx.out.ws⟩
  have Ty : Hid (Tof (tk y) ∧ Tok y.c (tk y)) := ⟨tof_mk Fy.out HIy.out.ws, tok_mk Fy.out HIy.out.ws⟩
  have HXY : Hid (∀ wr, Below w0.heap.size w0 wr → Abx wr w.heap.size x ∧ Abx wr (w.heap.size + 1) y) := fun wr h => by
    have h5 := Hs0.out
    have hx5 : Abx w0 w.heap.size x := (HB5.out.block _ (by omega)).symm.trans HX5.out
    have hy5 : Abx w0 (w.heap.size + 1) y := (HB5.out.block _ (by omega)).symm.trans HY5.out
    exact ⟨hx5.below h (by omega), hy5.below h (by omega)⟩
  clear HX5 HY5
  go_loopw [13] (fun i wr => ∃ (n : Nat) (tx ty : Tst), i = .int .i64 n ∧ n ≤ x.L.length ∧ n ≤ y.L.length ∧ Hid (Two w0.heap.size wr x y bs bt bv bu gs gt tx ty) ∧ Hid (Below w0.heap.size w0 wr)) (fun i _ => x.L.length - (intOf i).toNat)
  case atStart => exact ⟨0, t00, t00, rfl, Nat.zero_le _, Nat.zero_le _, HQ, HB5⟩
  case round =>
    obtain ⟨n, tx, ty, rfl, hnx, hny, HT, HBr⟩ := hrel
    have hmx : x.L.length ≤ maxLen := HIx.out.ln
    have hmy : y.L.length ≤ maxLen := HIy.out.ln
    simp only [maxLen] at hmx hmy
    have kX := ask_cell (HXY.out wr HBr.out).1 17 (.slice x.va x.L.length x.vc) rfl
    have kY := ask_cell (HXY.out wr HBr.out).2 17 (.slice y.va y.L.length y.vc) rfl
    clear HQ HB5
    by_cases hlx : n < x.L.length
    · by_cases hly : n < y.L.length
      · obtain ⟨fx, hfx⟩ : ∃ f, x.L[n]? = some f := ⟨_, List.getElem?_eq_getElem hlx⟩
        obtain ⟨fy, hfy⟩ : ∃ f, y.L[n]? = some f := ⟨_, List.getElem?_eq_getElem hly⟩
        have HVx : Hid (∀ wr, Below w0.heap.size w0 wr → ∃ gx ox, x.va = some ⟨gx, ox, none⟩ ∧ wr.cell? ⟨gx, ox + n * 4, none⟩ = some (.int .i64 fx.er) ∧ wr.cell? ⟨gx, ox + n * 4 + 1, none⟩ = some (.int .i64 fx.yo) ∧ wr.cell? ⟨gx, ox + n * 4 + 2, none⟩ = some (.int .i64 fx.te) ∧ wr.cell? ⟨gx, ox + n * 4 + 3, none⟩ = some (.int .i64 fx.tr)) := fun wr h => by
          obtain ⟨gx, ox, e1, e2, e3⟩ := (HIx.out.vs.below (HBW0.out wr h)) n fx hfx
          exact ⟨gx, ox, e1, e3⟩
        have HVy : Hid (∀ wr, Below w0.heap.size w0 wr → ∃ gx ox, y.va = some ⟨gx, ox, none⟩ ∧ wr.cell? ⟨gx, ox + n * 4, none⟩ = some (.int .i64 fy.er) ∧ wr.cell? ⟨gx, ox + n * 4 + 1, none⟩ = some (.int .i64 fy.yo) ∧ wr.cell? ⟨gx, ox + n * 4 + 2, none⟩ = some (.int .i64 fy.te) ∧ wr.cell? ⟨gx, ox + n * 4 + 3, none⟩ = some (.int .i64 fy.tr)) := fun wr h => by
          obtain ⟨gx, ox, e1, e2, e3⟩ := (HIy.out.vs.below (HBW0.out wr h)) n fy hfy
          exact ⟨gx, ox, e1, e3⟩
        clear hfx hfy
        obtain ⟨us, ut, uv, uu, Q0⟩ := HT.out.ex
        have Gx : Hid (Go12 (tk x) tx) := HT.out.gx
        have Gy : Hid (Go12 (tk y) ty) := HT.out.gy
        have HQ0 : Hid (Q4 w0.heap.size wr (Fq bs us gs) (Fq bt ut gt) (Fp bv uv) (Fp bu uu) (fun w => Pt w w0.heap.size bs us gs (tk x) tx) (fun w => Pt w w0.heap.size bt ut gt (tk y) ty) (fun w => Rf w w0.heap.size bv uv x.c (tk x) tx) (fun w => Rf w w0.heap.size bu uu y.c (tk y) ty)) := Q0
        clear Q0 HT
        have hlxi : (n : Int) < x.L.length := by omega
        have hlyi : (n : Int) < y.L.length := by omega
        obtain ⟨sx, tx', enx⟩ : ∃ s t', (tk x).next tx fx = (s, t') := ⟨_, _, rfl⟩
        obtain ⟨sy, ty', eny⟩ : ∃ s t', (tk y).next ty fy = (s, t') := ⟨_, _, rfl⟩
        have Ex : Hid ((tk x).next tx fx = (sx, tx')) := enx
        have Ey : Hid ((tk y).next ty fy = (sy, ty')) := eny
        clear enx eny
        have nnx : (sx != sx) = false := by simp
        have nny : (sy != sy) = false := by simp
        obtain ⟨ga, oa, ea, v0, v1, v2, v3⟩ := HVx.out wr HBr.out
        have ka := ask_cell (HXY.out wr HBr.out).1 17 (.slice x.va x.L.length x.vc) rfl
        rw [ea] at ka
        have q := pnext_any HQ0.out.p1 (by have := Gx.out.len; omega) Tx.out.1 Gx.out.oc fx
        rw [Ex.out] at q
        go_wp2_with fail
        refine q.mono ?_
        rintro e9 wA ⟨rfl, ⟨ua, r1, r2, r3⟩⟩
        have hst := HQ0.out.step (stb_pt w0.heap.size bs ua gs (tk x) tx') r1 r2 r3 HBr.out.size
        have HBA : Hid (Below w0.heap.size w0 wA) := HBr.out.trans hst.2
        have HQA := Hid.mk9 hst.1
        clear q r1 r2 r3 hst v0 v1 v2 v3 ka ea
        obtain ⟨gb, ob, eb, v0, v1, v2, v3⟩ := HVy.out wA HBA.out
        have kb := ask_cell (HXY.out wA HBA.out).2 17 (.slice y.va y.L.length y.vc) rfl
        rw [eb] at kb
        have q := pnext_any HQA.out.p1 (by have := Gy.out.len; omega) Ty.out.1 Gy.out.oc fy
        rw [Ey.out] at q
        go_wp2_with fail
        refine q.mono ?_
        rintro e9 wB ⟨rfl, ⟨ub, r1, r2, r3⟩⟩
        have hst := HQA.out.step (stb_pt w0.heap.size bt ub gt (tk y) ty') r1 r2 r3 HBA.out.size
        have HBB : Hid (Below w0.heap.size w0 wB) := HBA.out.trans hst.2
        have HQB := Hid.mk9 hst.1
        clear q r1 r2 r3 hst v0 v1 v2 v3 kb eb
        obtain ⟨gc, oc, ec, v0, v1, v2, v3⟩ := HVx.out wB HBB.out
        have kc := ask_cell (HXY.out wB HBB.out).1 17 (.slice x.va x.L.length x.vc) rfl
        rw [ec] at kc
        have q := next_any HQB.out.p1 (by have := Gx.out.len; omega) Tx.out.2 fx
        rw [Ex.out] at q
        go_wp2_with fail
        refine q.mono ?_
        rintro e9 wC ⟨rfl, ⟨uc, r1, r2, r3⟩⟩
        have hst := HQB.out.step (stb_rf w0.heap.size bv uc x.c (tk x) tx') r1 r2 r3 HBB.out.size
        have HBC : Hid (Below w0.heap.size w0 wC) := HBB.out.trans hst.2
        have HQC := Hid.mk9 hst.1
        clear q r1 r2 r3 hst v0 v1 v2 v3 kc ec
        obtain ⟨gd, od, ed, v0, v1, v2, v3⟩ := HVy.out wC HBC.out
        have kd := ask_cell (HXY.out wC HBC.out).2 17 (.slice y.va y.L.length y.vc) rfl
        rw [ed] at kd
        have q := next_any HQC.out.p1 (by have := Gy.out.len; omega) Ty.out.2 fy
        rw [Ey.out] at q
        go_wp2_with fail
        refine q.mono ?_
        rintro e9 wD ⟨rfl, ⟨ud, r1, r2, r3⟩⟩
        have hst := HQC.out.step (stb_rf w0.heap.size bu ud y.c (tk y) ty') r1 r2 r3 HBC.out.size
        have HBD : Hid (Below w0.heap.size w0 wD) := HBC.out.trans hst.2
        have HQD := Hid.mk9 hst.1
        clear q r1 r2 r3 hst v0 v1 v2 v3 kd ed
        have HTn : Hid (Two w0.heap.size wD x y bs bt bv bu gs gt tx' ty') := ⟨⟨ua, ub, uc, ud, HQD.out⟩, by have h := Gx.out.next fx; rw [Ex.out] at h; exact h, by have h := Gy.out.next fy; rw [Ey.out] at h; exact h⟩
        have kX9 := kX
        clear kX9 HQD HVx HVy
        go_wp2
        go_roundw
        case rel => exact ⟨n + 1, tx', ty', by go_num, by omega, by omega, HTn, HBD⟩
        case measure => simp [intOf]; omega
      · have hcs : ((n : Int) < x.L.length) ∧ decide ((n : Int) < y.L.length) = false := ⟨by omega, decide_eq_false (by omega)⟩
        obtain ⟨hA, hB⟩ := hcs
        obtain ⟨us, ut, uv, uu, Q0⟩ := HT.out.ex
        have HQ0 : Hid (Q4 w0.heap.size wr (Fq bs us gs) (Fq bt ut gt) (Fp bv uv) (Fp bu uu) (fun w => Pt w w0.heap.size bs us gs (tk x) tx) (fun w => Pt w w0.heap.size bt ut gt (tk y) ty) (fun w => Rf w w0.heap.size bv uv x.c (tk x) tx) (fun w => Rf w w0.heap.size bu uu y.c (tk y) ty)) := Q0
        have Gx : Hid (tx.ran.length ≤ 3 ∧ ty.ran.length ≤ 3) := ⟨HT.out.gx.len, HT.out.gy.len⟩
        clear Q0 HT
        have q := pcycles_any HQ0.out.p1
        go_wp2_with fail
        refine q.mono ?_
        rintro e9 wA ⟨la, rfl, r1, r2⟩
        have HQA := Hid.mk9 (HQ0.out.below r2)
        have HBA : Hid (Below w0.heap.size w0 wA) := HBr.out.trans (r2.mono HBr.out.size)
        have HRA : Hid (wA.ownsRow wr.heap.size 3 1 la tx.ran.length (ints tx.ran)) := r1
        clear q r1 r2 HQ0 kX kY
        have q := rcycles_any HQA.out.p3
        go_wp2_with fail
        refine q.mono ?_
        rintro e9 wB ⟨lb, rfl, r1, r2⟩
        have HQB := Hid.mk9 (HQA.out.below r2)
        have HBB : Hid (Below w0.heap.size w0 wB) := HBA.out.trans (r2.mono HBA.out.size)
        have q2 := same_yes (row_keep2 HRA.out (Kg.Touch.of_below r2 []) (by simp)) r1 rfl rfl (by have := Gx.out.1; omega)
        clear q r1 r2 HQA HRA
        go_wp2_with fail
        refine q2.mono ?_
        rintro e9 wC ⟨rfl, r2⟩
        have HQC := Hid.mk9 (HQB.out.below r2)
        have HBC : Hid (Below w0.heap.size w0 wC) := HBB.out.trans (r2.mono HBB.out.size)
        clear q2 r2 HQB
        have q := pcycles_any HQC.out.p2
        go_wp2_with fail
        refine q.mono ?_
        rintro e9 wD ⟨lc, rfl, r1, r2⟩
        have HQD := Hid.mk9 (HQC.out.below r2)
        have HBD : Hid (Below w0.heap.size w0 wD) := HBC.out.trans (r2.mono HBC.out.size)
        have HRD : Hid (wD.ownsRow wC.heap.size 3 1 lc ty.ran.length (ints ty.ran)) := r1
        clear q r1 r2 HQC
        have q := rcycles_any HQD.out.p4
        go_wp2_with fail
        refine q.mono ?_
        rintro e9 wE ⟨ld, rfl, r1, r2⟩
        have HBE : Hid (Below w0.heap.size w0 wE) := HBD.out.trans (r2.mono HBD.out.size)
        have q2 := same_yes (row_keep2 HRD.out (Kg.Touch.of_below r2 []) (by simp)) r1 rfl rfl (by have := Gx.out.2; omega)
        clear q r1 r2 HQD HRD
        go_wp2_with fail
        refine q2.mono ?_
        rintro e9 wF ⟨rfl, r2⟩
        have HBF : Hid (Below w.heap.size w wF) := HBW0.out wF (HBE.out.trans (r2.mono HBE.out.size))
        clear q2 r2
        go_wp2
        go_ret
        exact ⟨rfl, HBF.out⟩
    · have hA : decide ((n : Int) < x.L.length) = false := decide_eq_false (by omega)
      obtain ⟨us, ut, uv, uu, Q0⟩ := HT.out.ex
      have HQ0 : Hid (Q4 w0.heap.size wr (Fq bs us gs) (Fq bt ut gt) (Fp bv uv) (Fp bu uu) (fun w => Pt w w0.heap.size bs us gs (tk x) tx) (fun w => Pt w w0.heap.size bt ut gt (tk y) ty) (fun w => Rf w w0.heap.size bv uv x.c (tk x) tx) (fun w => Rf w w0.heap.size bu uu y.c (tk y) ty)) := Q0
      have Gx : Hid (tx.ran.length ≤ 3 ∧ ty.ran.length ≤ 3) := ⟨HT.out.gx.len, HT.out.gy.len⟩
      clear Q0 HT
      have q := pcycles_any HQ0.out.p1
      go_wp2_with fail
      refine q.mono ?_
      rintro e9 wA ⟨la, rfl, r1, r2⟩
      have HQA := Hid.mk9 (HQ0.out.below r2)
      have HBA : Hid (Below w0.heap.size w0 wA) := HBr.out.trans (r2.mono HBr.out.size)
      have HRA : Hid (wA.ownsRow wr.heap.size 3 1 la tx.ran.length (ints tx.ran)) := r1
      clear q r1 r2 HQ0 kX kY
      have q := rcycles_any HQA.out.p3
      go_wp2_with fail
      refine q.mono ?_
      rintro e9 wB ⟨lb, rfl, r1, r2⟩
      have HQB := Hid.mk9 (HQA.out.below r2)
      have HBB : Hid (Below w0.heap.size w0 wB) := HBA.out.trans (r2.mono HBA.out.size)
      have q2 := same_yes (row_keep2 HRA.out (Kg.Touch.of_below r2 []) (by simp)) r1 rfl rfl (by have := Gx.out.1; omega)
      clear q r1 r2 HQA HRA
      go_wp2_with fail
      refine q2.mono ?_
      rintro e9 wC ⟨rfl, r2⟩
      have HQC := Hid.mk9 (HQB.out.below r2)
      have HBC : Hid (Below w0.heap.size w0 wC) := HBB.out.trans (r2.mono HBB.out.size)
      clear q2 r2 HQB
      have q := pcycles_any HQC.out.p2
      go_wp2_with fail
      refine q.mono ?_
      rintro e9 wD ⟨lc, rfl, r1, r2⟩
      have HQD := Hid.mk9 (HQC.out.below r2)
      have HBD : Hid (Below w0.heap.size w0 wD) := HBC.out.trans (r2.mono HBC.out.size)
      have HRD : Hid (wD.ownsRow wC.heap.size 3 1 lc ty.ran.length (ints ty.ran)) := r1
      clear q r1 r2 HQC
      have q := rcycles_any HQD.out.p4
      go_wp2_with fail
      refine q.mono ?_
      rintro e9 wE ⟨ld, rfl, r1, r2⟩
      have HBE : Hid (Below w0.heap.size w0 wE) := HBD.out.trans (r2.mono HBD.out.size)
      have q2 := same_yes (row_keep2 HRD.out (Kg.Touch.of_below r2 []) (by simp)) r1 rfl rfl (by have := Gx.out.2; omega)
      clear q r1 r2 HQD HRD
      go_wp2_with fail
      refine q2.mono ?_
      rintro e9 wF ⟨rfl, r2⟩
      have HBF : Hid (Below w.heap.size w wF) := HBW0.out wF (HBE.out.trans (r2.mono HBE.out.size))
      clear q2 r2
      go_wp2
      go_ret
      exact ⟨rfl, HBF.out⟩

theorem two_any (x y : Ask) (w : World) (hx : AskIn w x) (hy : AskIn w y) : Calls Try.prog 6 #[askv x, askv y] w fun e w' => e = .returned (.bool true) ∧ Below w.heap.size w w' := by
  rcases x.flt_or with fx | fx
  · rcases y.flt_or with fy | fy
    · exact two_yy x y w hx hy fx fy
    · exact two_yn x y w hx hy fx fy
  · rcases y.flt_or with fy | fy
    · exact two_ny x y w hx hy fx fy
    · exact two_nn x y w hx hy fx fy

end Go.Proofs.Ytcijdbhabbepaaa.Po
