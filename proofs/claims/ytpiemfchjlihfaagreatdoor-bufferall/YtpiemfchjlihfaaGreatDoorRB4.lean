/-
  The document's buffers: Put. (Printed by mkRB4.py.)
-/
import Derived.Test.YtpiemfchjlihfaaGreatDoorRB3
set_option linter.unusedVariables false
set_option maxRecDepth 20000
namespace Go.Proofs.YtpiemfchjlihfaaGreatDoor
open Go.RowKit Go.Shelf

theorem r13put_no {w : World} {vb ga gr n : Nat} {sz : Int} {at_ rs : Nat → Int} (h : Rbs w vb ga gr n sz at_ rs) (T s k p r a y : Int) (hh : Bool) (hno : ¬ (0 ≤ T ∧ T < n) ∨ flt k p r a y ≠ 0) (A : Value) :
    Calls Tryz.prog 16 #[.pointer (some ⟨vb, 0, none⟩), A, .int .i64 T, hv s k p r a y hh] w fun e w' => e = .returned (.tuple #[.int .i64 0, .bool false]) ∧ Below w.heap.size w w' := by
  have b0 : Below w.heap.size w (w.alloc (.cells (hcells s k p r a y hh) 46)) := Below.alloc (Below.refl _ _) (Nat.le_refl _) _
  have qi := r13is_any (h.below b0) T
  have hp := rpack_any s k p r a y hh (w.alloc (.cells (hcells s k p r a y hh) 46))
  have x0 := Box.new w 46 (.int .u64 s) (.int .i64 k) (.int .i64 p) (.int .i64 r) (.int .i64 a) (.int .i64 y) (.bool hh)
  have HB : Hid (Below w.heap.size w (w.alloc (.cells (hcells s k p r a y hh) 46))) := b0
  obtain ⟨d, hd⟩ : ∃ d, d = decide (0 ≤ T ∧ T < (n : Int)) := ⟨_, rfl⟩
  rw [← hd] at qi
  obtain ⟨f, hf⟩ : ∃ f, f = flt k p r a y := ⟨_, rfl⟩
  rw [← hf] at hp
  have Hno : Hid (d = false ∨ f ≠ 0) := by
    rcases hno with h1 | h1
    · exact .inl (by rw [hd]; exact decide_eq_false h1)
    · exact .inr (by rw [hf]; exact h1)
  generalize pck k p r a y hh = pk at hp
  clear h hno hd hf b0
  go_enter Tryz.func16, Tryz.ntmps16
  go_upto_region 1 with fail
  generalize w.alloc (.cells (hcells s k p r a y hh) 46) = v at *
  obtain ⟨y0, y1, y2, y3, y4, y5, y6, -, -, -, -, -, -, -⟩ := x0
  go_wp2_with fail
  refine qi.mono ?_
  rintro e w1 ⟨rfl, rfl⟩
  go_wp2_with fail
  refine hp.mono ?_
  rintro e w2 ⟨rfl, b2⟩
  have HB2 : Hid (Below w.heap.size w w2) := HB.out.trans (b2.mono HB.out.size)
  clear qi hp y0 y1 y2 y3 y4 y5 y6 b2 HB
  rcases Hno.out with hd | hf
  · subst hd
    go_wp2
    go_ret2
    exact ⟨rfl, HB2.out⟩
  · cases d
    · go_wp2
      go_ret2
      exact ⟨rfl, HB2.out⟩
    · go_wp2
      go_ret2
      exact ⟨rfl, HB2.out⟩

section
variable {w : World} {vb ga gr N rb : Nat} {g : Nat → Nat} {c : Cfg} {x : Tps} {ws : Nat → Int} {sz : Int} {at_ rs : Nat → Int}

set_option maxHeartbeats 8000000 in
theorem r13put_rest (h : Rz w vb ga gr N rb g c x ws sz at_ rs) (t : Nat) (ht : t < N) (s k a y : Int) (p r : Nat) (hh : Bool) (hf : flt k p r a y = 0) (n R : Nat) (hn : n = 2 + p + r) (hR : rs t = R) (q : Nat) (hq : at_ t = q) (hle : n ≤ R) (hq0 : 0 < q) (hR1 : R ≤ 70000) (hqR : ((q + R : Nat) : Int) ≤ c.words) :
    Calls Tryz.prog 16 #[.pointer (some ⟨vb, 0, none⟩), .pointer (some ⟨rb, 0, none⟩), .int .i64 t, hv s k p r a y hh] w fun e w' => e = .returned (.tuple #[.int .i64 q, .bool true]) ∧ Rz w' vb ga gr N rb g c x (fil13 (putw ws q n (wrd k p r a y hh) s) ((q + n : Nat) : Int) ((R - n : Nat) : Int)) sz (upd at_ t ((q + n : Nat) : Int)) (upd rs t ((R - n : Nat) : Int)) ∧ Touch (rzf vb ga gr rb g) w w' := by
  have Hq : Hid (at_ t = q ∧ ((q + R : Nat) : Int) ≤ c.words) := ⟨hq, hqR⟩
  clear hq hqR
  have mm := May.of hf
  have hp1 : p ≤ 4095 := by have := mm.p1; omega
  have hr1 : r ≤ 65535 := by have := mm.r1; omega
  have hp := rpack_any s k p r a y hh (w.alloc (.cells (hcells s k p r a y hh) 46))
  rw [hf, pck_ok hf] at hp
  have b0 : Below w.heap.size w (w.alloc (.cells (hcells s k p r a y hh) 46)) := Below.alloc (Below.refl _ _) (Nat.le_refl _) _
  have qi := r13is_any (h.bu.below b0) t
  rw [decide_eq_true (⟨by omega, by omega⟩ : 0 ≤ (t : Int) ∧ (t : Int) < N)] at qi
  have x0 := heap_alloc_new w (.cells (hcells s k p r a y hh) 46)
  have H0 : Hid (Rz w vb ga gr N rb g c x ws sz at_ rs) := h
  have Hn : Hid (n = 2 + p + r) := hn
  have HRs : Hid (rs t = R) := hR
  have Hf : Hid (flt k p r a y = 0) := hf
  have hti : (t : Int) < (N : Int) := by omega
  have hs1 := h.bu.s1
  have htop := h.ar.tk
  generalize hmw : wrd k p r a y hh = m at hp ⊢
  have Hmw : Hid (wrd k p r a y hh = m) := hmw
  clear h hn hR hmw mm hf
  go_enter Tryz.func16, Tryz.ntmps16
  go_upto_region 1 with fail
  generalize w.alloc (.cells (hcells s k p r a y hh) 46) = v at *
  have HX : Hid (v.heap[w.heap.size]? = some (.cells (hcells s k p r a y hh) 46 (0, 0))) := x0
  have HB : Hid (Below w.heap.size w v) := b0
  clear x0 b0
  have y0 : v.cell? ⟨w.heap.size, 0, none⟩ = some (.int .u64 s) := cell_of_row _ _ 0 _ _ _ HX.out
  have y1 : v.cell? ⟨w.heap.size, 1, none⟩ = some (.int .i64 k) := cell_of_row _ _ 1 _ _ _ HX.out
  have y2 : v.cell? ⟨w.heap.size, 2, none⟩ = some (.int .i64 p) := cell_of_row _ _ 2 _ _ _ HX.out
  have y3 : v.cell? ⟨w.heap.size, 3, none⟩ = some (.int .i64 r) := cell_of_row _ _ 3 _ _ _ HX.out
  have y4 : v.cell? ⟨w.heap.size, 4, none⟩ = some (.int .i64 a) := cell_of_row _ _ 4 _ _ _ HX.out
  have y5 : v.cell? ⟨w.heap.size, 5, none⟩ = some (.int .i64 y) := cell_of_row _ _ 5 _ _ _ HX.out
  have y6 : v.cell? ⟨w.heap.size, 6, none⟩ = some (.bool hh) := cell_of_row _ _ 6 _ _ _ HX.out
  go_wp2_with fail
  refine qi.mono ?_
  rintro e w1 ⟨rfl, rfl⟩
  go_wp2_with fail
  refine hp.mono ?_
  rintro e w2 ⟨rfl, b2⟩
  have HX2 : Hid (w2.heap[w.heap.size]? = some (.cells (hcells s k p r a y hh) 46 (0, 0))) := (b2.block _ (Array.getElem?_eq_some_iff.1 HX.out).1).trans HX.out
  have HB2 : Hid (Below w.heap.size w w2) := HB.out.trans (b2.mono HB.out.size)
  have qs := rsizeh_any s k p r a y hh (by omega) (by omega) (by omega) (by omega) w2
  rw [show (2 : Int) + p + r = (n : Int) by have := Hn.out; omega] at qs
  clear qi hp b2 y0 y1 y2 y3 y4 y5 y6 HX HB
  have y0 : w2.cell? ⟨w.heap.size, 0, none⟩ = some (.int .u64 s) := cell_of_row _ _ 0 _ _ _ HX2.out
  have y1 : w2.cell? ⟨w.heap.size, 1, none⟩ = some (.int .i64 k) := cell_of_row _ _ 1 _ _ _ HX2.out
  have y2 : w2.cell? ⟨w.heap.size, 2, none⟩ = some (.int .i64 p) := cell_of_row _ _ 2 _ _ _ HX2.out
  have y3 : w2.cell? ⟨w.heap.size, 3, none⟩ = some (.int .i64 r) := cell_of_row _ _ 3 _ _ _ HX2.out
  have y4 : w2.cell? ⟨w.heap.size, 4, none⟩ = some (.int .i64 a) := cell_of_row _ _ 4 _ _ _ HX2.out
  have y5 : w2.cell? ⟨w.heap.size, 5, none⟩ = some (.int .i64 y) := cell_of_row _ _ 5 _ _ _ HX2.out
  have y6 : w2.cell? ⟨w.heap.size, 6, none⟩ = some (.bool hh) := cell_of_row _ _ 6 _ _ _ HX2.out
  go_wp2_with fail
  refine qs.mono ?_
  rintro e w3 ⟨rfl, hw3⟩
  have b3 : Below w2.heap.size w2 w3 := by rw [hw3]; exact Below.alloc (Below.refl _ _) (Nat.le_refl _) _
  have HX3 : Hid (w3.heap[w.heap.size]? = some (.cells (hcells s k p r a y hh) 46 (0, 0))) := (b3.block _ (Array.getElem?_eq_some_iff.1 HX2.out).1).trans HX2.out
  have HB3 : Hid (Below w.heap.size w w3) := HB2.out.trans (b3.mono HB2.out.size)
  have qf : Calls Tryz.prog 59 #[.pointer (some ⟨rb, 0, none⟩), .int .i64 1] w3 fun e w' => e = .returned (.int .i64 (1 + c.eden - x.t1)) ∧ Below w3.heap.size w3 w' := rfree_any rb g c x false ws 1 w3 (H0.out.ar.below HB3.out)
  clear qs hw3 b3 y0 y1 y2 y3 y4 y5 y6 HX2 HB2
  go_wp2_with fail
  refine qf.mono ?_
  rintro e w4 ⟨rfl, b4⟩
  have HX4 : Hid (w4.heap[w.heap.size]? = some (.cells (hcells s k p r a y hh) 46 (0, 0))) := (b4.block _ (Array.getElem?_eq_some_iff.1 HX3.out).1).trans HX3.out
  have HB4 : Hid (Below w.heap.size w w4) := HB3.out.trans (b4.mono HB3.out.size)
  have HR4 : Hid (Rz w4 vb ga gr N rb g c x ws sz at_ rs) := H0.out.below HB4.out
  have Hoff : Hid (w.heap.size ∉ rzf vb ga gr rb g) := fun hm => Nat.lt_irrefl _ (H0.out.lts _ hm)
  clear qf b4 HX3 HB3
  have k2 := HR4.out.bu.c2
  have k3 : w4.cell? ⟨gr, t, none⟩ = some (.int .i64 R) := by rw [← HRs.out]; exact HR4.out.bu.rr.cell ht
  have hle' : (n : Int) ≤ (R : Int) := by omega
  have y0 : w4.cell? ⟨w.heap.size, 0, none⟩ = some (.int .u64 s) := cell_of_row _ _ 0 _ _ _ HX4.out
  have y1 : w4.cell? ⟨w.heap.size, 1, none⟩ = some (.int .i64 k) := cell_of_row _ _ 1 _ _ _ HX4.out
  have y2 : w4.cell? ⟨w.heap.size, 2, none⟩ = some (.int .i64 p) := cell_of_row _ _ 2 _ _ _ HX4.out
  have y3 : w4.cell? ⟨w.heap.size, 3, none⟩ = some (.int .i64 r) := cell_of_row _ _ 3 _ _ _ HX4.out
  have y4 : w4.cell? ⟨w.heap.size, 4, none⟩ = some (.int .i64 a) := cell_of_row _ _ 4 _ _ _ HX4.out
  have y5 : w4.cell? ⟨w.heap.size, 5, none⟩ = some (.int .i64 y) := cell_of_row _ _ 5 _ _ _ HX4.out
  have y6 : w4.cell? ⟨w.heap.size, 6, none⟩ = some (.bool hh) := cell_of_row _ _ 6 _ _ _ HX4.out
  have ql := r13lay_any HR4.out t ht s k a y p r hh m hp1 hr1 q R n Hq.out.1 HRs.out Hn.out hle hq0 hR1 Hq.out.2
  go_wp2_with fail
  refine ql.mono ?_
  rintro e w5 ⟨rfl, r5, t5⟩
  have HF : Hid (Rz w5 vb ga gr N rb g c x (fil13 (putw ws q n m s) ((q + n : Nat) : Int) ((R - n : Nat) : Int)) sz (upd at_ t ((q + n : Nat) : Int)) (upd rs t ((R - n : Nat) : Int))) := r5
  have HT : Hid (Touch (rzf vb ga gr rb g) w w5) := (Touch.of_below HB4.out _).trans t5
  clear ql r5 t5 y0 y1 y2 y3 y4 y5 y6 k2 k3
  go_wp2
  go_ret2
  exact ⟨rfl, HF.out, HT.out⟩

/-- What is laid over doesn't hang on the word that stood there. -/
theorem putw_upd (ws : Nat → Int) (q n : Nat) (v m s : Int) (h : 1 ≤ n) : putw (upd ws q v) q n m s = putw ws q n m s := by
  funext j
  unfold putw upd zer
  by_cases e : j = q + 1
  · rw [if_pos e, if_pos e]
  · rw [if_neg e, if_neg e]
    by_cases e2 : j = q
    · rw [if_pos e2, if_pos e2]
    · rw [if_neg e2, if_neg e2]
      split
      · rfl
      · show (if j = q then v else ws j) = ws j
        rw [if_neg e2]

set_option maxHeartbeats 8000000 in
theorem r13put_new (h : Rz w vb ga gr N rb g c x ws sz at_ rs) (t : Nat) (ht : t < N) (s k a y : Int) (p r : Nat) (hh : Bool) (hf : flt k p r a y = 0) (n R : Nat) (hn : n = 2 + p + r) (hR : rs t = R) (q z : Nat) (hq : x.t1 = q) (hle : ¬ n ≤ R) (hsz : (n : Int) ≤ sz) (hfr : (n : Int) ≤ 1 + c.eden - q) (hz : min sz (1 + c.eden - q) = z) :
    Calls Tryz.prog 16 #[.pointer (some ⟨vb, 0, none⟩), .pointer (some ⟨rb, 0, none⟩), .int .i64 t, hv s k p r a y hh] w fun e w' => e = .returned (.tuple #[.int .i64 q, .bool true]) ∧ Rz w' vb ga gr N rb g c (x.put 1 ((q : Int) + z)) (fil13 (putw (zer ws q z) q n (wrd k p r a y hh) s) ((q + n : Nat) : Int) ((z - n : Nat) : Int)) sz (upd (upd at_ t q) t ((q + n : Nat) : Int)) (upd (upd rs t z) t ((z - n : Nat) : Int)) ∧ Touch (rzf vb ga gr rb g) w w' := by
  have hok := h.ar.ok
  have hq1 : 1 ≤ x.t1 := h.ar.tk.t10
  have hze : (z : Int) ≤ sz ∧ (z : Int) ≤ 1 + c.eden - q := by omega
  have hnz : n ≤ z := by omega
  have hzz : (if 1 + c.eden - (q : Int) < sz then 1 + c.eden - (q : Int) else sz) = (z : Int) := by
    split
    · omega
    · omega
  have Hq : Hid (x.t1 = q ∧ c.Ok) := ⟨hq, hok⟩
  have hqb : q ≤ 65537 := by have := hok.e1; omega
  have hq0 : 0 < q := by omega
  clear hok hq1 hz hq
  have mm := May.of hf
  have hp1 : p ≤ 4095 := by have := mm.p1; omega
  have hr1 : r ≤ 65535 := by have := mm.r1; omega
  have hp := rpack_any s k p r a y hh (w.alloc (.cells (hcells s k p r a y hh) 46))
  rw [hf, pck_ok hf] at hp
  have b0 : Below w.heap.size w (w.alloc (.cells (hcells s k p r a y hh) 46)) := Below.alloc (Below.refl _ _) (Nat.le_refl _) _
  have qi := r13is_any (h.bu.below b0) t
  rw [decide_eq_true (⟨by omega, by omega⟩ : 0 ≤ (t : Int) ∧ (t : Int) < N)] at qi
  have x0 := heap_alloc_new w (.cells (hcells s k p r a y hh) 46)
  have H0 : Hid (Rz w vb ga gr N rb g c x ws sz at_ rs) := h
  have Hn : Hid (n = 2 + p + r) := hn
  have HRs : Hid (rs t = R) := hR
  have Hf : Hid (flt k p r a y = 0) := hf
  have hti : (t : Int) < (N : Int) := by omega
  have hs1 := h.bu.s1
  have htop := h.ar.tk
  generalize hmw : wrd k p r a y hh = m at hp ⊢
  have Hmw : Hid (wrd k p r a y hh = m) := hmw
  clear h hn hR hmw mm hf
  go_enter Tryz.func16, Tryz.ntmps16
  go_upto_region 1 with fail
  generalize w.alloc (.cells (hcells s k p r a y hh) 46) = v at *
  have HX : Hid (v.heap[w.heap.size]? = some (.cells (hcells s k p r a y hh) 46 (0, 0))) := x0
  have HB : Hid (Below w.heap.size w v) := b0
  clear x0 b0
  have y0 : v.cell? ⟨w.heap.size, 0, none⟩ = some (.int .u64 s) := cell_of_row _ _ 0 _ _ _ HX.out
  have y1 : v.cell? ⟨w.heap.size, 1, none⟩ = some (.int .i64 k) := cell_of_row _ _ 1 _ _ _ HX.out
  have y2 : v.cell? ⟨w.heap.size, 2, none⟩ = some (.int .i64 p) := cell_of_row _ _ 2 _ _ _ HX.out
  have y3 : v.cell? ⟨w.heap.size, 3, none⟩ = some (.int .i64 r) := cell_of_row _ _ 3 _ _ _ HX.out
  have y4 : v.cell? ⟨w.heap.size, 4, none⟩ = some (.int .i64 a) := cell_of_row _ _ 4 _ _ _ HX.out
  have y5 : v.cell? ⟨w.heap.size, 5, none⟩ = some (.int .i64 y) := cell_of_row _ _ 5 _ _ _ HX.out
  have y6 : v.cell? ⟨w.heap.size, 6, none⟩ = some (.bool hh) := cell_of_row _ _ 6 _ _ _ HX.out
  go_wp2_with fail
  refine qi.mono ?_
  rintro e w1 ⟨rfl, rfl⟩
  go_wp2_with fail
  refine hp.mono ?_
  rintro e w2 ⟨rfl, b2⟩
  have HX2 : Hid (w2.heap[w.heap.size]? = some (.cells (hcells s k p r a y hh) 46 (0, 0))) := (b2.block _ (Array.getElem?_eq_some_iff.1 HX.out).1).trans HX.out
  have HB2 : Hid (Below w.heap.size w w2) := HB.out.trans (b2.mono HB.out.size)
  have qs := rsizeh_any s k p r a y hh (by omega) (by omega) (by omega) (by omega) w2
  rw [show (2 : Int) + p + r = (n : Int) by have := Hn.out; omega] at qs
  clear qi hp b2 y0 y1 y2 y3 y4 y5 y6 HX HB
  have y0 : w2.cell? ⟨w.heap.size, 0, none⟩ = some (.int .u64 s) := cell_of_row _ _ 0 _ _ _ HX2.out
  have y1 : w2.cell? ⟨w.heap.size, 1, none⟩ = some (.int .i64 k) := cell_of_row _ _ 1 _ _ _ HX2.out
  have y2 : w2.cell? ⟨w.heap.size, 2, none⟩ = some (.int .i64 p) := cell_of_row _ _ 2 _ _ _ HX2.out
  have y3 : w2.cell? ⟨w.heap.size, 3, none⟩ = some (.int .i64 r) := cell_of_row _ _ 3 _ _ _ HX2.out
  have y4 : w2.cell? ⟨w.heap.size, 4, none⟩ = some (.int .i64 a) := cell_of_row _ _ 4 _ _ _ HX2.out
  have y5 : w2.cell? ⟨w.heap.size, 5, none⟩ = some (.int .i64 y) := cell_of_row _ _ 5 _ _ _ HX2.out
  have y6 : w2.cell? ⟨w.heap.size, 6, none⟩ = some (.bool hh) := cell_of_row _ _ 6 _ _ _ HX2.out
  go_wp2_with fail
  refine qs.mono ?_
  rintro e w3 ⟨rfl, hw3⟩
  have b3 : Below w2.heap.size w2 w3 := by rw [hw3]; exact Below.alloc (Below.refl _ _) (Nat.le_refl _) _
  have HX3 : Hid (w3.heap[w.heap.size]? = some (.cells (hcells s k p r a y hh) 46 (0, 0))) := (b3.block _ (Array.getElem?_eq_some_iff.1 HX2.out).1).trans HX2.out
  have HB3 : Hid (Below w.heap.size w w3) := HB2.out.trans (b3.mono HB2.out.size)
  have qf : Calls Tryz.prog 59 #[.pointer (some ⟨rb, 0, none⟩), .int .i64 1] w3 fun e w' => e = .returned (.int .i64 (1 + c.eden - q)) ∧ Below w3.heap.size w3 w' := by
    have := rfree_any rb g c x false ws 1 w3 (H0.out.ar.below HB3.out)
    rw [show bhd c 1 - x.top 1 = 1 + c.eden - q by show 1 + c.eden - x.t1 = _; rw [Hq.out.1]] at this
    exact this
  clear qs hw3 b3 y0 y1 y2 y3 y4 y5 y6 HX2 HB2
  go_wp2_with fail
  refine qf.mono ?_
  rintro e w4 ⟨rfl, b4⟩
  have HX4 : Hid (w4.heap[w.heap.size]? = some (.cells (hcells s k p r a y hh) 46 (0, 0))) := (b4.block _ (Array.getElem?_eq_some_iff.1 HX3.out).1).trans HX3.out
  have HB4 : Hid (Below w.heap.size w w4) := HB3.out.trans (b4.mono HB3.out.size)
  have HR4 : Hid (Rz w4 vb ga gr N rb g c x ws sz at_ rs) := H0.out.below HB4.out
  have Hoff : Hid (w.heap.size ∉ rzf vb ga gr rb g) := fun hm => Nat.lt_irrefl _ (H0.out.lts _ hm)
  clear qf b4 HX3 HB3
  have k2 := HR4.out.bu.c2
  have k3 : w4.cell? ⟨gr, t, none⟩ = some (.int .i64 R) := by rw [← HRs.out]; exact HR4.out.bu.rr.cell ht
  have hle' : ¬ (n : Int) ≤ (R : Int) := by omega
  have k0 := HR4.out.bu.c0
  obtain ⟨fr, hfre⟩ : ∃ fr : Int, fr = 1 + c.eden - q := ⟨_, rfl⟩
  rw [← hfre] at hfr hzz ⊢
  have Hfr : Hid (fr = 1 + c.eden - q) := hfre
  clear hfre
  go_upto_region 12 with fail
  have k1 := HR4.out.bu.c1
  have hvl := HR4.out.bu.lt
  have hgl := HR4.out.bu.ra.lt
  haveI hinh : Inhabited (Kg.Bel w4) := ⟨⟨w4, Below.refl _ _⟩⟩
  have z1 : ∀ p : Kg.Bel w4, p.v.cell? ⟨vb, 1, none⟩ = some (.slice (some ⟨ga, 0, none⟩) N N) := fun p => (p.h.cell (p := ⟨vb, 1, none⟩) hvl).trans k1
  have HTp : Hid (∀ p : Kg.Bel w4, Calls Tryz.prog 37 #[.pointer (some ⟨rb, 0, none⟩), .int .i64 1] p.v fun e w' => e = .returned (.int .i64 q) ∧ Below p.v.heap.size p.v w') := fun p => by
    have := rtop_any rb g c x false ws 1 p.v (HR4.out.ar.below p.h)
    rw [show x.top 1 = (q : Int) from Hq.out.1] at this
    exact this
  clear k0 k1 k2 k3
  refine Kg.below_call 8 Kg.mixed (by kernel_rfl) ?_
  simp only [List.take_succ_cons, List.take_zero, List.drop_succ_cons, List.drop_zero]
  repeat (go_big_quiet_step (first | (go_at_call 37; exact Kg.calls_bel (HTp.out _))))
  refine wpQuiet_nil ?_
  rintro w5 ⟨⟨w5, b5⟩, rfl⟩
  have HR5 : Hid (Rz w5 vb ga gr N rb g c x ws sz at_ rs) := HR4.out.below b5
  have HB5 : Hid (Below w.heap.size w w5) := HB4.out.trans (b5.mono HB4.out.size)
  have HX5 : Hid (w5.heap[w.heap.size]? = some (.cells (hcells s k p r a y hh) 46 (0, 0))) := (b5.block _ (Array.getElem?_eq_some_iff.1 HX4.out).1).trans HX4.out
  have g2 := HR5.out.bu.ra.frozen t
  have k2 : w5.cell? ⟨ga, t, none⟩ = some (.int .i64 (at_ t)) := HR5.out.bu.ra.cell ht
  clear z1 hinh HTp b5 HR4 HB4 HX4 hvl hgl
  go_wp2_with fail
  refine Kg.thenQuiet_mk ?_
  refine wpQuiet_nil ?_
  obtain ⟨r6, t6⟩ := HR5.out.setA t (q : Int)
  have HR6 : Hid (Rz (w5.setCell ⟨ga, t, none⟩ (.int .i64 q)) vb ga gr N rb g c x ws sz (upd at_ t q) rs) := r6
  have HT6 : Hid (Touch (rzf vb ga gr rb g) w (w5.setCell ⟨ga, t, none⟩ (.int .i64 q))) := (Touch.of_below HB5.out _).trans t6
  have HX6 : Hid ((w5.setCell ⟨ga, t, none⟩ (.int .i64 q)).heap[w.heap.size]? = some (.cells (hcells s k p r a y hh) 46 (0, 0))) := (t6.block _ (Array.getElem?_eq_some_iff.1 HX5.out).1 Hoff.out).trans HX5.out
  clear g2 k2 r6 t6 HR5 HB5 HX5
  generalize w5.setCell ⟨ga, t, none⟩ (.int .i64 q) = w6 at *
  have k2 := HR6.out.bu.c2
  have g3 := HR6.out.bu.rr.frozen t
  have k3 : w6.cell? ⟨gr, t, none⟩ = some (.int .i64 R) := by rw [← HRs.out]; exact HR6.out.bu.rr.cell ht
  go_upto_region 14 with fail
  obtain ⟨r7, t7⟩ := HR6.out.setR t (z : Int)
  have HR7 : Hid (Rz (w6.setCell ⟨gr, t, none⟩ (.int .i64 z)) vb ga gr N rb g c x ws sz (upd at_ t q) (upd rs t z)) := r7
  have HT7 : Hid (Touch (rzf vb ga gr rb g) w (w6.setCell ⟨gr, t, none⟩ (.int .i64 z))) := HT6.out.trans t7
  have HX7 : Hid ((w6.setCell ⟨gr, t, none⟩ (.int .i64 z)).heap[w.heap.size]? = some (.cells (hcells s k p r a y hh) 46 (0, 0))) := (t7.block _ (Array.getElem?_eq_some_iff.1 HX6.out).1 Hoff.out).trans HX6.out
  clear g3 k2 k3 r7 t7 HR6 HT6 HX6
  generalize w6.setCell ⟨gr, t, none⟩ (.int .i64 z) = w7 at *
  have qfl := rfill_yes rb g c x false ws 1 q z (by omega) (by omega) Hq.out.1 (by omega) (by show (q : Int) + z ≤ 1 + c.eden; omega) w7 HR7.out.ar
  go_wp2_with fail
  refine qfl.mono ?_
  rintro e w8 ⟨rfl, a8, t8⟩
  have HR8 : Hid (Rz w8 vb ga gr N rb g c (x.put 1 ((q : Int) + z)) (upd (zer ws q z) q ((z : Int) * 4 + 3)) sz (upd at_ t q) (upd rs t z)) := HR7.out.word t8 a8
  have HT8 : Hid (Touch (rzf vb ga gr rb g) w w8) := HT7.out.trans (touch_rz t8)
  have HX8 : Hid (w8.heap[w.heap.size]? = some (.cells (hcells s k p r a y hh) 46 (0, 0))) := (t8.block _ (Array.getElem?_eq_some_iff.1 HX7.out).1 (fun hm => Hoff.out (List.mem_append.2 (.inr hm)))).trans HX7.out
  clear qfl a8 t8 HR7 HT7 HX7
  have y0 : w8.cell? ⟨w.heap.size, 0, none⟩ = some (.int .u64 s) := cell_of_row _ _ 0 _ _ _ HX8.out
  have y1 : w8.cell? ⟨w.heap.size, 1, none⟩ = some (.int .i64 k) := cell_of_row _ _ 1 _ _ _ HX8.out
  have y2 : w8.cell? ⟨w.heap.size, 2, none⟩ = some (.int .i64 p) := cell_of_row _ _ 2 _ _ _ HX8.out
  have y3 : w8.cell? ⟨w.heap.size, 3, none⟩ = some (.int .i64 r) := cell_of_row _ _ 3 _ _ _ HX8.out
  have y4 : w8.cell? ⟨w.heap.size, 4, none⟩ = some (.int .i64 a) := cell_of_row _ _ 4 _ _ _ HX8.out
  have y5 : w8.cell? ⟨w.heap.size, 5, none⟩ = some (.int .i64 y) := cell_of_row _ _ 5 _ _ _ HX8.out
  have y6 : w8.cell? ⟨w.heap.size, 6, none⟩ = some (.bool hh) := cell_of_row _ _ 6 _ _ _ HX8.out
  have ql := r13lay_any HR8.out t ht s k a y p r hh m hp1 hr1 q z n (by simp [upd]) (by simp [upd]) Hn.out hnz hq0 (by omega) (by
    have h1 := Hq.out.2
    have h2 := h1.s0
    have h3 := h1.t0
    unfold Cfg.words
    omega)
  rw [putw_upd _ _ _ _ _ _ (by omega)] at ql
  go_wp2_with fail
  refine ql.mono ?_
  rintro e w9 ⟨rfl, r9, t9⟩
  have HF : Hid (Rz w9 vb ga gr N rb g c (x.put 1 ((q : Int) + z)) (fil13 (putw (zer ws q z) q n m s) ((q + n : Nat) : Int) ((z - n : Nat) : Int)) sz (upd (upd at_ t q) t ((q + n : Nat) : Int)) (upd (upd rs t z) t ((z - n : Nat) : Int))) := r9
  have HT : Hid (Touch (rzf vb ga gr rb g) w w9) := HT8.out.trans t9
  clear ql r9 t9 y0 y1 y2 y3 y4 y5 y6
  go_wp2
  go_ret2
  exact ⟨rfl, HF.out, HT.out⟩

set_option maxHeartbeats 8000000 in
theorem r13put_eden (h : Rz w vb ga gr N rb g c x ws sz at_ rs) (t : Nat) (ht : t < N) (s k a y : Int) (p r : Nat) (hh : Bool) (hf : flt k p r a y = 0) (n R : Nat) (hn : n = 2 + p + r) (hR : rs t = R) (q : Nat) (hq : x.t1 = q) (hle : ¬ n ≤ R) (hsz : ¬ (n : Int) ≤ sz) (hfr : (n : Int) ≤ 1 + c.eden - q) :
    Calls Tryz.prog 16 #[.pointer (some ⟨vb, 0, none⟩), .pointer (some ⟨rb, 0, none⟩), .int .i64 t, hv s k p r a y hh] w fun e w' => e = .returned (.tuple #[.int .i64 q, .bool true]) ∧ Rz w' vb ga gr N rb g c (x.put 1 ((q : Int) + n)) (putw ws q n (wrd k p r a y hh) s) sz at_ rs ∧ Touch (rzf vb ga gr rb g) w w' := by
  have Hq : Hid (x.t1 = q) := hq
  have hsz' : sz < (n : Int) := by omega
  have mm := May.of hf
  have hp1 : p ≤ 4095 := by have := mm.p1; omega
  have hr1 : r ≤ 65535 := by have := mm.r1; omega
  have hp := rpack_any s k p r a y hh (w.alloc (.cells (hcells s k p r a y hh) 46))
  rw [hf, pck_ok hf] at hp
  have b0 : Below w.heap.size w (w.alloc (.cells (hcells s k p r a y hh) 46)) := Below.alloc (Below.refl _ _) (Nat.le_refl _) _
  have qi := r13is_any (h.bu.below b0) t
  rw [decide_eq_true (⟨by omega, by omega⟩ : 0 ≤ (t : Int) ∧ (t : Int) < N)] at qi
  have x0 := heap_alloc_new w (.cells (hcells s k p r a y hh) 46)
  have H0 : Hid (Rz w vb ga gr N rb g c x ws sz at_ rs) := h
  have Hn : Hid (n = 2 + p + r) := hn
  have HRs : Hid (rs t = R) := hR
  have Hf : Hid (flt k p r a y = 0) := hf
  have hti : (t : Int) < (N : Int) := by omega
  have hs1 := h.bu.s1
  have htop := h.ar.tk
  generalize hmw : wrd k p r a y hh = m at hp ⊢
  have Hmw : Hid (wrd k p r a y hh = m) := hmw
  clear h hn hR hmw mm hf
  go_enter Tryz.func16, Tryz.ntmps16
  go_upto_region 1 with fail
  generalize w.alloc (.cells (hcells s k p r a y hh) 46) = v at *
  have HX : Hid (v.heap[w.heap.size]? = some (.cells (hcells s k p r a y hh) 46 (0, 0))) := x0
  have HB : Hid (Below w.heap.size w v) := b0
  clear x0 b0
  have y0 : v.cell? ⟨w.heap.size, 0, none⟩ = some (.int .u64 s) := cell_of_row _ _ 0 _ _ _ HX.out
  have y1 : v.cell? ⟨w.heap.size, 1, none⟩ = some (.int .i64 k) := cell_of_row _ _ 1 _ _ _ HX.out
  have y2 : v.cell? ⟨w.heap.size, 2, none⟩ = some (.int .i64 p) := cell_of_row _ _ 2 _ _ _ HX.out
  have y3 : v.cell? ⟨w.heap.size, 3, none⟩ = some (.int .i64 r) := cell_of_row _ _ 3 _ _ _ HX.out
  have y4 : v.cell? ⟨w.heap.size, 4, none⟩ = some (.int .i64 a) := cell_of_row _ _ 4 _ _ _ HX.out
  have y5 : v.cell? ⟨w.heap.size, 5, none⟩ = some (.int .i64 y) := cell_of_row _ _ 5 _ _ _ HX.out
  have y6 : v.cell? ⟨w.heap.size, 6, none⟩ = some (.bool hh) := cell_of_row _ _ 6 _ _ _ HX.out
  go_wp2_with fail
  refine qi.mono ?_
  rintro e w1 ⟨rfl, rfl⟩
  go_wp2_with fail
  refine hp.mono ?_
  rintro e w2 ⟨rfl, b2⟩
  have HX2 : Hid (w2.heap[w.heap.size]? = some (.cells (hcells s k p r a y hh) 46 (0, 0))) := (b2.block _ (Array.getElem?_eq_some_iff.1 HX.out).1).trans HX.out
  have HB2 : Hid (Below w.heap.size w w2) := HB.out.trans (b2.mono HB.out.size)
  have qs := rsizeh_any s k p r a y hh (by omega) (by omega) (by omega) (by omega) w2
  rw [show (2 : Int) + p + r = (n : Int) by have := Hn.out; omega] at qs
  clear qi hp b2 y0 y1 y2 y3 y4 y5 y6 HX HB
  have y0 : w2.cell? ⟨w.heap.size, 0, none⟩ = some (.int .u64 s) := cell_of_row _ _ 0 _ _ _ HX2.out
  have y1 : w2.cell? ⟨w.heap.size, 1, none⟩ = some (.int .i64 k) := cell_of_row _ _ 1 _ _ _ HX2.out
  have y2 : w2.cell? ⟨w.heap.size, 2, none⟩ = some (.int .i64 p) := cell_of_row _ _ 2 _ _ _ HX2.out
  have y3 : w2.cell? ⟨w.heap.size, 3, none⟩ = some (.int .i64 r) := cell_of_row _ _ 3 _ _ _ HX2.out
  have y4 : w2.cell? ⟨w.heap.size, 4, none⟩ = some (.int .i64 a) := cell_of_row _ _ 4 _ _ _ HX2.out
  have y5 : w2.cell? ⟨w.heap.size, 5, none⟩ = some (.int .i64 y) := cell_of_row _ _ 5 _ _ _ HX2.out
  have y6 : w2.cell? ⟨w.heap.size, 6, none⟩ = some (.bool hh) := cell_of_row _ _ 6 _ _ _ HX2.out
  go_wp2_with fail
  refine qs.mono ?_
  rintro e w3 ⟨rfl, hw3⟩
  have b3 : Below w2.heap.size w2 w3 := by rw [hw3]; exact Below.alloc (Below.refl _ _) (Nat.le_refl _) _
  have HX3 : Hid (w3.heap[w.heap.size]? = some (.cells (hcells s k p r a y hh) 46 (0, 0))) := (b3.block _ (Array.getElem?_eq_some_iff.1 HX2.out).1).trans HX2.out
  have HB3 : Hid (Below w.heap.size w w3) := HB2.out.trans (b3.mono HB2.out.size)
  have qf : Calls Tryz.prog 59 #[.pointer (some ⟨rb, 0, none⟩), .int .i64 1] w3 fun e w' => e = .returned (.int .i64 (1 + c.eden - x.t1)) ∧ Below w3.heap.size w3 w' := rfree_any rb g c x false ws 1 w3 (H0.out.ar.below HB3.out)
  clear qs hw3 b3 y0 y1 y2 y3 y4 y5 y6 HX2 HB2
  go_wp2_with fail
  refine qf.mono ?_
  rintro e w4 ⟨rfl, b4⟩
  have HX4 : Hid (w4.heap[w.heap.size]? = some (.cells (hcells s k p r a y hh) 46 (0, 0))) := (b4.block _ (Array.getElem?_eq_some_iff.1 HX3.out).1).trans HX3.out
  have HB4 : Hid (Below w.heap.size w w4) := HB3.out.trans (b4.mono HB3.out.size)
  have HR4 : Hid (Rz w4 vb ga gr N rb g c x ws sz at_ rs) := H0.out.below HB4.out
  have Hoff : Hid (w.heap.size ∉ rzf vb ga gr rb g) := fun hm => Nat.lt_irrefl _ (H0.out.lts _ hm)
  clear qf b4 HX3 HB3
  have k2 := HR4.out.bu.c2
  have k3 : w4.cell? ⟨gr, t, none⟩ = some (.int .i64 R) := by rw [← HRs.out]; exact HR4.out.bu.rr.cell ht
  have hle' : ¬ (n : Int) ≤ (R : Int) := by omega
  have k0 := HR4.out.bu.c0
  obtain ⟨fr, hfre⟩ : ∃ fr : Int, fr = 1 + c.eden - x.t1 := ⟨_, rfl⟩
  rw [← hfre]
  have Hfr : Hid ((n : Int) ≤ 1 + c.eden - q) := hfr
  clear hfre hfr hq hsz
  have y0 : w4.cell? ⟨w.heap.size, 0, none⟩ = some (.int .u64 s) := cell_of_row _ _ 0 _ _ _ HX4.out
  have y1 : w4.cell? ⟨w.heap.size, 1, none⟩ = some (.int .i64 k) := cell_of_row _ _ 1 _ _ _ HX4.out
  have y2 : w4.cell? ⟨w.heap.size, 2, none⟩ = some (.int .i64 p) := cell_of_row _ _ 2 _ _ _ HX4.out
  have y3 : w4.cell? ⟨w.heap.size, 3, none⟩ = some (.int .i64 r) := cell_of_row _ _ 3 _ _ _ HX4.out
  have y4 : w4.cell? ⟨w.heap.size, 4, none⟩ = some (.int .i64 a) := cell_of_row _ _ 4 _ _ _ HX4.out
  have y5 : w4.cell? ⟨w.heap.size, 5, none⟩ = some (.int .i64 y) := cell_of_row _ _ 5 _ _ _ HX4.out
  have y6 : w4.cell? ⟨w.heap.size, 6, none⟩ = some (.bool hh) := cell_of_row _ _ 6 _ _ _ HX4.out
  have ql := rput_yes rb g c x false ws 1 (by omega) (by omega) s k p r a y hh Hf.out q n Hq.out (by have := Hn.out; omega) (by show (q : Int) + n ≤ 1 + c.eden; have := Hfr.out; omega) w4 HR4.out.ar
  rw [Hmw.out] at ql
  go_wp2_with fail
  refine ql.mono ?_
  rintro e w5 ⟨rfl, a5, t5⟩
  have HF : Hid (Rz w5 vb ga gr N rb g c (x.put 1 ((q : Int) + n)) (putw ws q n m s) sz at_ rs) := HR4.out.word t5 a5
  have HT : Hid (Touch (rzf vb ga gr rb g) w w5) := (Touch.of_below HB4.out _).trans (touch_rz t5)
  clear ql a5 t5 y0 y1 y2 y3 y4 y5 y6 k2 k3 k0
  go_wp2
  go_ret2
  exact ⟨rfl, HF.out, HT.out⟩

set_option maxHeartbeats 8000000 in
theorem r13put_full (h : Rz w vb ga gr N rb g c x ws sz at_ rs) (t : Nat) (ht : t < N) (s k a y : Int) (p r : Nat) (hh : Bool) (hf : flt k p r a y = 0) (n R : Nat) (hn : n = 2 + p + r) (hR : rs t = R) (hle : ¬ n ≤ R) (hfr : ¬ (n : Int) ≤ 1 + c.eden - x.t1) :
    Calls Tryz.prog 16 #[.pointer (some ⟨vb, 0, none⟩), .pointer (some ⟨rb, 0, none⟩), .int .i64 t, hv s k p r a y hh] w fun e w' => e = .returned (.tuple #[.int .i64 0, .bool false]) ∧ Below w.heap.size w w' := by
  have mm := May.of hf
  have hp1 : p ≤ 4095 := by have := mm.p1; omega
  have hr1 : r ≤ 65535 := by have := mm.r1; omega
  have hp := rpack_any s k p r a y hh (w.alloc (.cells (hcells s k p r a y hh) 46))
  rw [hf, pck_ok hf] at hp
  have b0 : Below w.heap.size w (w.alloc (.cells (hcells s k p r a y hh) 46)) := Below.alloc (Below.refl _ _) (Nat.le_refl _) _
  have qi := r13is_any (h.bu.below b0) t
  rw [decide_eq_true (⟨by omega, by omega⟩ : 0 ≤ (t : Int) ∧ (t : Int) < N)] at qi
  have x0 := heap_alloc_new w (.cells (hcells s k p r a y hh) 46)
  have H0 : Hid (Rz w vb ga gr N rb g c x ws sz at_ rs) := h
  have Hn : Hid (n = 2 + p + r) := hn
  have HRs : Hid (rs t = R) := hR
  have Hf : Hid (flt k p r a y = 0) := hf
  have hti : (t : Int) < (N : Int) := by omega
  have hs1 := h.bu.s1
  have htop := h.ar.tk
  generalize hmw : wrd k p r a y hh = m at hp ⊢
  have Hmw : Hid (wrd k p r a y hh = m) := hmw
  clear h hn hR hmw mm hf
  go_enter Tryz.func16, Tryz.ntmps16
  go_upto_region 1 with fail
  generalize w.alloc (.cells (hcells s k p r a y hh) 46) = v at *
  have HX : Hid (v.heap[w.heap.size]? = some (.cells (hcells s k p r a y hh) 46 (0, 0))) := x0
  have HB : Hid (Below w.heap.size w v) := b0
  clear x0 b0
  have y0 : v.cell? ⟨w.heap.size, 0, none⟩ = some (.int .u64 s) := cell_of_row _ _ 0 _ _ _ HX.out
  have y1 : v.cell? ⟨w.heap.size, 1, none⟩ = some (.int .i64 k) := cell_of_row _ _ 1 _ _ _ HX.out
  have y2 : v.cell? ⟨w.heap.size, 2, none⟩ = some (.int .i64 p) := cell_of_row _ _ 2 _ _ _ HX.out
  have y3 : v.cell? ⟨w.heap.size, 3, none⟩ = some (.int .i64 r) := cell_of_row _ _ 3 _ _ _ HX.out
  have y4 : v.cell? ⟨w.heap.size, 4, none⟩ = some (.int .i64 a) := cell_of_row _ _ 4 _ _ _ HX.out
  have y5 : v.cell? ⟨w.heap.size, 5, none⟩ = some (.int .i64 y) := cell_of_row _ _ 5 _ _ _ HX.out
  have y6 : v.cell? ⟨w.heap.size, 6, none⟩ = some (.bool hh) := cell_of_row _ _ 6 _ _ _ HX.out
  go_wp2_with fail
  refine qi.mono ?_
  rintro e w1 ⟨rfl, rfl⟩
  go_wp2_with fail
  refine hp.mono ?_
  rintro e w2 ⟨rfl, b2⟩
  have HX2 : Hid (w2.heap[w.heap.size]? = some (.cells (hcells s k p r a y hh) 46 (0, 0))) := (b2.block _ (Array.getElem?_eq_some_iff.1 HX.out).1).trans HX.out
  have HB2 : Hid (Below w.heap.size w w2) := HB.out.trans (b2.mono HB.out.size)
  have qs := rsizeh_any s k p r a y hh (by omega) (by omega) (by omega) (by omega) w2
  rw [show (2 : Int) + p + r = (n : Int) by have := Hn.out; omega] at qs
  clear qi hp b2 y0 y1 y2 y3 y4 y5 y6 HX HB
  have y0 : w2.cell? ⟨w.heap.size, 0, none⟩ = some (.int .u64 s) := cell_of_row _ _ 0 _ _ _ HX2.out
  have y1 : w2.cell? ⟨w.heap.size, 1, none⟩ = some (.int .i64 k) := cell_of_row _ _ 1 _ _ _ HX2.out
  have y2 : w2.cell? ⟨w.heap.size, 2, none⟩ = some (.int .i64 p) := cell_of_row _ _ 2 _ _ _ HX2.out
  have y3 : w2.cell? ⟨w.heap.size, 3, none⟩ = some (.int .i64 r) := cell_of_row _ _ 3 _ _ _ HX2.out
  have y4 : w2.cell? ⟨w.heap.size, 4, none⟩ = some (.int .i64 a) := cell_of_row _ _ 4 _ _ _ HX2.out
  have y5 : w2.cell? ⟨w.heap.size, 5, none⟩ = some (.int .i64 y) := cell_of_row _ _ 5 _ _ _ HX2.out
  have y6 : w2.cell? ⟨w.heap.size, 6, none⟩ = some (.bool hh) := cell_of_row _ _ 6 _ _ _ HX2.out
  go_wp2_with fail
  refine qs.mono ?_
  rintro e w3 ⟨rfl, hw3⟩
  have b3 : Below w2.heap.size w2 w3 := by rw [hw3]; exact Below.alloc (Below.refl _ _) (Nat.le_refl _) _
  have HX3 : Hid (w3.heap[w.heap.size]? = some (.cells (hcells s k p r a y hh) 46 (0, 0))) := (b3.block _ (Array.getElem?_eq_some_iff.1 HX2.out).1).trans HX2.out
  have HB3 : Hid (Below w.heap.size w w3) := HB2.out.trans (b3.mono HB2.out.size)
  have qf : Calls Tryz.prog 59 #[.pointer (some ⟨rb, 0, none⟩), .int .i64 1] w3 fun e w' => e = .returned (.int .i64 (1 + c.eden - x.t1)) ∧ Below w3.heap.size w3 w' := rfree_any rb g c x false ws 1 w3 (H0.out.ar.below HB3.out)
  clear qs hw3 b3 y0 y1 y2 y3 y4 y5 y6 HX2 HB2
  go_wp2_with fail
  refine qf.mono ?_
  rintro e w4 ⟨rfl, b4⟩
  have HX4 : Hid (w4.heap[w.heap.size]? = some (.cells (hcells s k p r a y hh) 46 (0, 0))) := (b4.block _ (Array.getElem?_eq_some_iff.1 HX3.out).1).trans HX3.out
  have HB4 : Hid (Below w.heap.size w w4) := HB3.out.trans (b4.mono HB3.out.size)
  have HR4 : Hid (Rz w4 vb ga gr N rb g c x ws sz at_ rs) := H0.out.below HB4.out
  have Hoff : Hid (w.heap.size ∉ rzf vb ga gr rb g) := fun hm => Nat.lt_irrefl _ (H0.out.lts _ hm)
  clear qf b4 HX3 HB3
  have k2 := HR4.out.bu.c2
  have k3 : w4.cell? ⟨gr, t, none⟩ = some (.int .i64 R) := by rw [← HRs.out]; exact HR4.out.bu.rr.cell ht
  have hle' : ¬ (n : Int) ≤ (R : Int) := by omega
  have k0 := HR4.out.bu.c0
  have ql := rput_full rb g c x false ws 1 s k p r a y hh Hf.out (by show ¬ (2 : Int) + p + r ≤ 1 + c.eden - x.t1; have := Hn.out; omega) w4 HR4.out.ar
  obtain ⟨fr, hfre⟩ : ∃ fr : Int, fr = 1 + c.eden - x.t1 := ⟨_, rfl⟩
  rw [← hfre] at hfr ⊢
  clear hfre
  have y0 : w4.cell? ⟨w.heap.size, 0, none⟩ = some (.int .u64 s) := cell_of_row _ _ 0 _ _ _ HX4.out
  have y1 : w4.cell? ⟨w.heap.size, 1, none⟩ = some (.int .i64 k) := cell_of_row _ _ 1 _ _ _ HX4.out
  have y2 : w4.cell? ⟨w.heap.size, 2, none⟩ = some (.int .i64 p) := cell_of_row _ _ 2 _ _ _ HX4.out
  have y3 : w4.cell? ⟨w.heap.size, 3, none⟩ = some (.int .i64 r) := cell_of_row _ _ 3 _ _ _ HX4.out
  have y4 : w4.cell? ⟨w.heap.size, 4, none⟩ = some (.int .i64 a) := cell_of_row _ _ 4 _ _ _ HX4.out
  have y5 : w4.cell? ⟨w.heap.size, 5, none⟩ = some (.int .i64 y) := cell_of_row _ _ 5 _ _ _ HX4.out
  have y6 : w4.cell? ⟨w.heap.size, 6, none⟩ = some (.bool hh) := cell_of_row _ _ 6 _ _ _ HX4.out
  by_cases hsz : (n : Int) ≤ sz
  · go_wp2_with fail
    refine ql.mono ?_
    rintro e w5 ⟨rfl, b5⟩
    have HT : Hid (Below w.heap.size w w5) := HB4.out.trans (b5.mono HB4.out.size)
    clear ql b5 y0 y1 y2 y3 y4 y5 y6 k2 k3 k0
    go_wp2
    go_ret2
    exact ⟨rfl, HT.out⟩
  · go_wp2_with fail
    refine ql.mono ?_
    rintro e w5 ⟨rfl, b5⟩
    have HT : Hid (Below w.heap.size w w5) := HB4.out.trans (b5.mono HB4.out.size)
    clear ql b5 y0 y1 y2 y3 y4 y5 y6 k2 k3 k0
    go_wp2
    go_ret2
    exact ⟨rfl, HT.out⟩

end
end Go.Proofs.YtpiemfchjlihfaaGreatDoor
