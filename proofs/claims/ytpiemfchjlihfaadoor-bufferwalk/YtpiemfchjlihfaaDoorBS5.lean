/-
  step: KEden.
-/
import Derived.Test.YtpiemfchjlihfaaDoorBS5a
set_option linter.unusedVariables false
set_option maxRecDepth 20000
namespace Go.Proofs.YtpiemfchjlihfaaDoor
open Go.RowKit Go.Shelf

abbrev zlaid : Value := .agg #[.int .i64 0, .int .u64 0, .int .i64 0, .int .i64 0, .int .i64 0, .int .i64 0, .int .i64 0, .bool false, .slice none 0 0]
theorem Tryd.infoLaid : (Tryd.prog.info? 56).map (fun i => (i.zero, i.size, i.bytes)) = some (some zlaid, 9, 88) := by kernel_rfl
theorem Tryd.underlying50 : Tryd.prog.underlying 50 = some (.slice 56) := by kernel_rfl

section
variable {n0 : Nat} {w w' : World} {wb b ab ag nt : Nat} {c : Cfg} {top : Nat} {ws : Nat → Int} {B : Bfs} {L : List Sg} {Th : List Ob} {lv : Value}

set_option maxHeartbeats 8000000 in
theorem step_eden (S : Ws n0 w wb b ab ag nt c top ws B L Th lv) (hn0 : n0 ≤ w.heap.size) (o : Op13) (ho : o.Ok) (hk : o.k = 5) :
    Calls Tryd.prog 15 #[.pointer (some ⟨wb, 0, none⟩), o.val] w fun e w' => e = .returned (.bool true) ∧ Below n0 w w' ∧ ∃ top' ws' B' L' Th' lv', Ws n0 w' wb b ab ag nt c top' ws' B' L' Th' lv' ∧ B'.size = B.size := by
  have Hos : Hid (Wd o.s) := ho.s
  have HS : Hid (Ws n0 w wb b ab ag nt c top ws B L Th lv) := S
  have hnt : 1 ≤ nt ∧ nt ≤ 8 := by have := S.bw.bf.n1; have := S.bw.bf.n0; have := S.nt; omega
  obtain ⟨tt, htt, HT0⟩ := among13_nat o.t nt ho.t.1 ho.t.2 ⟨by omega, by omega⟩
  have HT : Hid (∀ w : World, Calls Tryd.prog 8 #[.int .i64 o.t, .int .i64 nt] w fun e w' => e = .returned (.int .i64 tt) ∧ Below w.heap.size w w') := fun w => (HT0 w).mono fun _ _ h => ⟨h.1, h.2 ▸ Below.refl _ _⟩
  obtain ⟨k', p', r', a', y', hf, hp1, hr1, hp2, HD0⟩ := sound13_any o.s o.kd o.p o.r o.a o.y o.h ho.kd ho.p ho.r ho.a ho.y
  have HD : Hid (∀ w : World, Calls Tryd.prog 33 #[hv o.s o.kd o.p o.r o.a o.y o.h] w fun e w' => e = .returned (hv o.s k' p' r' a' y' o.h) ∧ Below w.heap.size w w') := HD0
  have Hn0 : Hid (n0 ≤ w.heap.size) := hn0
  clear S HT0 HD0 ho hn0
  go_enter Tryd.func15, Tryd.ntmps15
  go_upto_region 1 with fail
  have B0 : Below w.heap.size w (w.alloc (.cells o.cells 49)) := Below.alloc (Below.refl _ _) (Nat.le_refl _) _
  have X0 := heap_alloc_new w (.cells o.cells 49)
  generalize w.alloc (.cells o.cells 49) = v at *
  have HX : Hid (v.heap[w.heap.size]? = some (.cells o.cells 49 (0, 0))) := X0
  have HB : Hid (Below w.heap.size w v) := B0
  have HSv : Hid (Ws n0 v wb b ab ag nt c top ws B L Th lv) := HS.out.below B0
  have hXl : w.heap.size < v.heap.size := (Array.getElem?_eq_some_iff.1 X0).1
  have hWl : wb < v.heap.size := (Array.getElem?_eq_some_iff.1 HSv.out.wq).1
  haveI hinh : Inhabited (Kg.Bel v) := ⟨⟨v, Below.refl _ _⟩⟩
  have z0 : ∀ p : Kg.Bel v, p.v.cell? ⟨w.heap.size, 1, none⟩ = some (.int .i64 o.t) := fun p => (p.h.cell (p := ⟨w.heap.size, 1, none⟩) hXl).trans (cell_of_row _ _ 1 _ _ _ X0)
  have z1 : ∀ p : Kg.Bel v, p.v.cell? ⟨wb, 2, none⟩ = some (.int .i64 nt) := fun p => (p.h.cell (p := ⟨wb, 2, none⟩) hWl).trans HSv.out.wp.c2
  clear X0 B0
  refine Kg.region_below Kg.mixed (by kernel_rfl) ?_
  repeat (go_big_quiet_step (first | (go_at_call 8; exact Kg.calls_bel (HT.out _))))
  refine wpQuiet_nil ?_
  rintro w1 ⟨⟨w1, b1⟩, rfl⟩
  have HB1 : Hid (Below v.heap.size v w1) := b1
  have X1 : w1.heap[w.heap.size]? = some (.cells o.cells 49 (0, 0)) := (b1.block _ hXl).trans HX.out
  clear z0 z1 hinh b1 HT hXl hWl
  have x0 : w1.cell? ⟨w.heap.size, 0, none⟩ = some (.int .i64 5) := by rw [← hk]; exact cell_of_row _ _ 0 _ _ _ X1
  have x2 : w1.cell? ⟨w.heap.size, 2, none⟩ = some (.int .u64 o.s) := cell_of_row _ _ 2 _ _ _ X1
  have x3 : w1.cell? ⟨w.heap.size, 3, none⟩ = some (.int .i64 o.kd) := cell_of_row _ _ 3 _ _ _ X1
  have x4 : w1.cell? ⟨w.heap.size, 4, none⟩ = some (.int .i64 o.p) := cell_of_row _ _ 4 _ _ _ X1
  have x5 : w1.cell? ⟨w.heap.size, 5, none⟩ = some (.int .i64 o.r) := cell_of_row _ _ 5 _ _ _ X1
  have x6 : w1.cell? ⟨w.heap.size, 6, none⟩ = some (.int .i64 o.a) := cell_of_row _ _ 6 _ _ _ X1
  have x7 : w1.cell? ⟨w.heap.size, 7, none⟩ = some (.int .i64 o.y) := cell_of_row _ _ 7 _ _ _ X1
  have x8 : w1.cell? ⟨w.heap.size, 8, none⟩ = some (.bool o.h) := cell_of_row _ _ 8 _ _ _ X1
  have HX1 : Hid (w1.heap[w.heap.size]? = some (.cells o.cells 49 (0, 0))) := X1
  have q := HD.out w1
  clear X1 HD
  go_wp2_with fail
  refine q.mono ?_
  rintro e w2 ⟨rfl, b2⟩
  have HB2 : Hid (Below w1.heap.size w1 w2) := b2
  clear q b2 x2 x3 x4 x5 x6 x7 x8 x0
  go_upto_region 3 with fail
  have B3 : Below v.heap.size v (w2.alloc (.cells (hcells o.s k' p' r' a' y' o.h) 38)) := Below.alloc (HB1.out.trans (HB2.out.mono HB1.out.size)) ((HB1.out.trans (HB2.out.mono HB1.out.size)).size) _
  have X3 : (w2.alloc (.cells (hcells o.s k' p' r' a' y' o.h) 38)).heap[w.heap.size]? = some (.cells o.cells 49 (0, 0)) := (B3.block _ (Array.getElem?_eq_some_iff.1 HX.out).1).trans HX.out
  have Y3 := heap_alloc_new w2 (.cells (hcells o.s k' p' r' a' y' o.h) 38)
  have hYl : w.heap.size ≤ w2.heap.size := by have := HB.out.size; have := HB1.out.size; have := HB2.out.size; omega
  generalize w2.alloc (.cells (hcells o.s k' p' r' a' y' o.h) 38) = v3 at *
  have HB3 : Hid (Below w.heap.size w v3) := HB.out.trans (B3.mono HB.out.size)
  have HX3 : Hid (v3.heap[w.heap.size]? = some (.cells o.cells 49 (0, 0))) := X3
  have HY3 : Hid (v3.heap[w2.heap.size]? = some (.cells (hcells o.s k' p' r' a' y' o.h) 38 (0, 0))) := Y3
  have HS3 : Hid (Ws n0 v3 wb b ab ag nt c top ws B L Th lv) := HS.out.below HB3.out
  have x0 : v3.cell? ⟨w.heap.size, 0, none⟩ = some (.int .i64 5) := by rw [← hk]; exact cell_of_row _ _ 0 _ _ _ X3
  clear B3 X3 Y3 HSv HX1 HB2 HB1 HX HB hk
  generalize w2.heap.size = Y at *
  have Hf : Hid (flt k' p' r' a' y' = 0) := hf
  go_upto_region 12 with fail
  clear x0 hf
  have hWl : wb < v3.heap.size := (Array.getElem?_eq_some_iff.1 HS3.out.wq).1
  have hYl2 : Y < v3.heap.size := (Array.getElem?_eq_some_iff.1 HY3.out).1
  haveI hinh : Inhabited (Kg.Bel v3) := ⟨⟨v3, Below.refl _ _⟩⟩
  have z0 : ∀ q : Kg.Bel v3, q.v.cell? ⟨wb, 0, none⟩ = some (.pointer (some ⟨ab, 0, none⟩)) := fun q => (q.h.cell (p := ⟨wb, 0, none⟩) hWl).trans HS3.out.wp.c0
  have y0 : ∀ q : Kg.Bel v3, q.v.cell? ⟨Y, 0, none⟩ = some (.int .u64 o.s) := fun q => (q.h.cell (p := ⟨Y, 0, none⟩) hYl2).trans (cell_of_row _ _ 0 _ _ _ HY3.out)
  have y1 : ∀ q : Kg.Bel v3, q.v.cell? ⟨Y, 1, none⟩ = some (.int .i64 k') := fun q => (q.h.cell (p := ⟨Y, 1, none⟩) hYl2).trans (cell_of_row _ _ 1 _ _ _ HY3.out)
  have y2 : ∀ q : Kg.Bel v3, q.v.cell? ⟨Y, 2, none⟩ = some (.int .i64 p') := fun q => (q.h.cell (p := ⟨Y, 2, none⟩) hYl2).trans (cell_of_row _ _ 2 _ _ _ HY3.out)
  have y3 : ∀ q : Kg.Bel v3, q.v.cell? ⟨Y, 3, none⟩ = some (.int .i64 r') := fun q => (q.h.cell (p := ⟨Y, 3, none⟩) hYl2).trans (cell_of_row _ _ 3 _ _ _ HY3.out)
  have y4 : ∀ q : Kg.Bel v3, q.v.cell? ⟨Y, 4, none⟩ = some (.int .i64 a') := fun q => (q.h.cell (p := ⟨Y, 4, none⟩) hYl2).trans (cell_of_row _ _ 4 _ _ _ HY3.out)
  have y5 : ∀ q : Kg.Bel v3, q.v.cell? ⟨Y, 5, none⟩ = some (.int .i64 y') := fun q => (q.h.cell (p := ⟨Y, 5, none⟩) hYl2).trans (cell_of_row _ _ 5 _ _ _ HY3.out)
  have y6 : ∀ q : Kg.Bel v3, q.v.cell? ⟨Y, 6, none⟩ = some (.bool o.h) := fun q => (q.h.cell (p := ⟨Y, 6, none⟩) hYl2).trans (cell_of_row _ _ 6 _ _ _ HY3.out)
  refine Kg.below_call 5 Kg.mixed (by kernel_rfl) ?_
  simp only [List.take_succ_cons, List.take_zero, List.drop_succ_cons, List.drop_zero]
  repeat (go_big_quiet_step (fail))
  refine wpQuiet_nil ?_
  rintro w4 ⟨⟨w4, b4⟩, rfl⟩
  have HS4 : Hid (Ws n0 w4 wb b ab ag nt c top ws B L Th lv) := HS3.out.below b4
  have HB4 : Hid (Below w.heap.size w w4) := HB3.out.trans (b4.mono HB3.out.size)
  have HY4 : Hid (w4.heap[Y]? = some (.cells (hcells o.s k' p' r' a' y' o.h) 38 (0, 0))) := (b4.block _ hYl2).trans HY3.out
  have q := HS4.out.eden (s := o.s) (k := k') (a := a') (y := y') (p := p') (r := r') o.h Hos.out Hf.out
  clear z0 y0 y1 y2 y3 y4 y5 y6 hinh b4 hWl hYl2
  go_wp2_with fail
  refine q.mono ?_
  rintro e w5 ⟨ok, qa, top', ws', B', L', rfl, bw5, hn5, hs5, t5, hno, hyes⟩
  go_wp2_with fail
  refine Kg.thenQuiet_mk ?_
  repeat (go_big_quiet_step (fail))
  refine wpQuiet_nil ?_
  obtain ⟨hf1, hf2⟩ := HS4.out.frame t5
  have HY5 : Hid (w5.heap[Y]? = some (.cells (hcells o.s k' p' r' a' y' o.h) 38 (0, 0))) := (t5.block Y (Array.getElem?_eq_some_iff.1 HY4.out).1 (by
    have hb := HS4.out.bw.bf.own
    have ha := HS4.out.bw.ar.own
    have hg := HS4.out.bw.ar.row
    have hY : w4.rowIs Y 38 7 (fun j => (hcells o.s k' p' r' a' y' o.h).getD j default) := ⟨_, HY4.out, rfl, fun i hi => by
      match i, hi with
      | 0, _ | 1, _ | 2, _ | 3, _ | 4, _ | 5, _ | 6, _ => rfl
      | n + 7, h => exact absurd h (by omega)⟩
    simp only [List.mem_cons, List.not_mem_nil, or_false, not_or]
    exact ⟨rowIs_ne hY hb (by decide), rowIs_ne hY ha (by decide), rowIs_ne hY hg (by decide)⟩)).trans HY4.out
  have HB5 : Hid (Below n0 w w5) := (HB4.out.mono Hn0.out).trans (t5.below (Nat.le_trans Hn0.out HB4.out.size) (fun z hz => by
    have := HS4.out.bw.lo
    simp only [List.mem_cons, List.not_mem_nil, or_false] at hz
    omega))
  have HQ5 : Hid (w5.heap[wb]? = some (.cells #[.pointer (some ⟨ab, 0, none⟩), .pointer (some ⟨b, 0, none⟩), .int .i64 nt, lv] 52 (0, 0))) := hf1.trans HS4.out.wq
  have HM5 : Hid (Mo w5 n0 ag lv Th) := hf2
  have HW5 : Hid (Bw n0 w5 b ab ag c (xt c top') ws' B') := bw5
  have Hno : Hid (ok = false → Wo (xt c top') ws' B' top' L' Th) := hno
  have Hyes : Hid (ok = true → ∀ gr, Wo (xt c top') ws' B' top' L' (Th ++ [⟨qa, o.s, k', p', r', a', y', o.h, fun _ => 0, gr⟩])) := hyes
  have Hs5 : Hid (B'.n = B.n ∧ B'.size = B.size) := ⟨hn5, hs5⟩
  clear q hf1 hf2 bw5 hno hyes hn5 hs5 t5
  cases ok with
  | false =>
    have HF : Hid (Ws n0 w5 wb b ab ag nt c top' ws' B' L' Th lv) := ⟨HW5.out, Hno.out rfl, HQ5.out, HM5.out, HS.out.lo, Hs5.out.1.trans HS.out.nt⟩
    clear Hno Hyes
    go_wp2
    go_ret
    exact ⟨rfl, HB5.out, top', ws', B', L', Th, lv, HF.out, Hs5.out.2⟩
  | true =>
    go_upto_region 14 with fail
    have k3 : w5.cell? ⟨wb, 3, none⟩ = some lv := cell_of_row _ _ 3 _ _ _ HQ5.out
    have g3 : w5.frozen? ⟨wb, 3, none⟩ = false := by unfold World.frozen?; rw [HQ5.out]; rfl
    have y0 : w5.cell? ⟨Y, 0, none⟩ = some (.int .u64 o.s) := cell_of_row _ _ 0 _ _ _ HY5.out
    have y1 : w5.cell? ⟨Y, 1, none⟩ = some (.int .i64 k') := cell_of_row _ _ 1 _ _ _ HY5.out
    have y2 : w5.cell? ⟨Y, 2, none⟩ = some (.int .i64 p') := cell_of_row _ _ 2 _ _ _ HY5.out
    have y3 : w5.cell? ⟨Y, 3, none⟩ = some (.int .i64 r') := cell_of_row _ _ 3 _ _ _ HY5.out
    have y4 : w5.cell? ⟨Y, 4, none⟩ = some (.int .i64 a') := cell_of_row _ _ 4 _ _ _ HY5.out
    have y5 : w5.cell? ⟨Y, 5, none⟩ = some (.int .i64 y') := cell_of_row _ _ 5 _ _ _ HY5.out
    have y6 : w5.cell? ⟨Y, 6, none⟩ = some (.bool o.h) := cell_of_row _ _ 6 _ _ _ HY5.out
    have hYl5 : Y < w5.heap.size := (Array.getElem?_eq_some_iff.1 HY5.out).1
    have hWl5 : wb < w5.heap.size := (Array.getElem?_eq_some_iff.1 HQ5.out).1
    obtain ⟨i0, hi0, hz0, hz1, hz2⟩ : ∃ i0 : TypeInfo, Tryd.prog.info? 36 = some i0 ∧ i0.zero = some (.int .u64 0) ∧ i0.size = 1 ∧ i0.bytes = 8 := ⟨_, rfl, rfl, rfl, rfl⟩
    have hmk : ∀ w, (Instr.makeSlice 54 (.int .i64 r') (.int .i64 r')).run Tryd.prog w = .ok (.slice (some ⟨w.heap.size, 0, none⟩) r' r') (w.alloc (.cells (madeCells #[.int .u64 0] r') 36)) := fun w => by
      have := run_make (P := Tryd.prog) w 54 36 i0 (.int .u64 0) Tryd.underlying54 hi0 hz0 .i64 .i64 r' r' (by omega) (Int.le_refl _) (by rw [hz2]; omega) (by omega)
      rw [hz1, Nat.mul_one] at this
      simpa [Value.cells] using this
    clear hi0 hz0 hz1 hz2
    obtain ⟨T, hT⟩ : ∃ T : Ob, T = ⟨qa, o.s, k', p', r', a', y', o.h, fun _ => 0, w5.heap.size⟩ := ⟨_, rfl⟩
    have HT : Hid (T = ⟨qa, o.s, k', p', r', a', y', o.h, fun _ => 0, w5.heap.size⟩) := hT
    have hTl : Th.length ≤ 70000 := by
      have h1 := obs_length HS4.out.wo.ch
      have h2 := HS4.out.wo.ch.top
      have h3 := HS4.out.topl.1
      have h4 : (obs 1 L).length = Th.length := by have := HS4.out.wo.ob.length_eq; simpa using this
      omega
    obtain ⟨i1, hj, hy0, hy1, hy2⟩ := info_parts Tryd.infoLaid
    have q1 : Hid (∀ u ∈ T.cells.toList, u.oneCell' = true) := by
      show ∀ u ∈ T.cells.toList, u.oneCell' = true
      simp [Value.oneCell']
    have q2 : Hid (Th.length + 1 ≤ maxLen) := by show _ ≤ _; simp [maxLen]; omega
    have q3 : (Th.length + 1) * 88 ≤ 140737488355328 := by omega
    have q4 : Hid (∀ (j : Nat) u, T.cells.toList[j]? = some u → ((w5.drew.alloc (.cells (madeCells #[.int .u64 0] r') 36)).alloc (.cells T.cells 56)).cell? ((⟨w5.heap.size + 1, 0, none⟩ : Addr).add j) = some u) := by
      have h9 := cells_new (w5.drew.alloc (.cells (madeCells #[.int .u64 0] r') 36)) T.cells 56
      have e9 : (w5.drew.alloc (.cells (madeCells #[.int .u64 0] r') 36)).heap.size = w5.heap.size + 1 := by simp
      rw [e9] at h9
      exact h9
    have hro : w5.drew.ownsRow n0 56 9 lv Th.length (oflat Th) := HM5.out.row
    have hnb : n0 ≤ w5.heap.size := Nat.le_trans Hn0.out HB5.out.size
    have hW2 : wb < (w5.drew.alloc (.cells (madeCells #[.int .u64 0] r') 36)).heap.size := by simp; omega
    have c2 : (w5.drew.alloc (.cells (madeCells #[.int .u64 0] r') 36)).cell? ⟨wb, 3, none⟩ = some lv := Lib.cell?_alloc_some _ k3
    have z2 : (w5.drew.alloc (.cells (madeCells #[.int .u64 0] r') 36)).frozen? ⟨wb, 3, none⟩ = false := by rw [World.frozen?_of_block (w := w5) (Below.heap_alloc w5.drew _ wb hWl5)]; exact g3
    have hnW : some wb ≠ lv.ownBlock := row_ne HQ5.out HM5.out.row (by decide)
    subst hT
    go_region_law (refine step_append_own_at rfl (.tmp 90) (.tmp 97) 50 rfl n0 56 i1 zlaid 9 88 Tryd.underlying50 hj hy0 hy1 hy2 rfl (by decide) lv Th.length (oflat Th) rfl ((hro.alloc _).alloc _) ⟨w5.heap.size + 1, 0, none⟩ 1 1 (Ob.cells _).toList rfl rfl q4.out q1.out q2.out q3 (by simp; omega) ?_; intro lv' w6 r6 hg6 ha6; have d1 := grow_cell (w := w5.drew.alloc (.cells (madeCells #[.int .u64 0] r') 36)) hg6 hW2 c2 hnW; have e1 := grow_frozen (w := w5.drew.alloc (.cells (madeCells #[.int .u64 0] r') 36)) hg6 z2 hW2 hnW; obtain ⟨g6, cap6, rfl⟩ := ownsRow_succ r6)
    all_goals
      have t9 : Touch lv.ownBlock.toList w5 w6 ∧ w6.heap[w5.heap.size]? = some (.cells (madeCells #[.int .u64 0] r') 36 (0, 0)) := by
        obtain ⟨t9, n9⟩ := laid_touch (w5 := w5.drew) hg6 HM5.out.row
        exact ⟨⟨t9.os, t9.tape, t9.output, t9.size, t9.block⟩, n9⟩
      obtain ⟨S9, b9⟩ := Ws.laid HW5.out (Hyes.out rfl w5.heap.size) HQ5.out HM5.out HS.out.lo (Hs5.out.1.trans HS.out.nt) hnb rfl rfl t9.1 t9.2 r6
      have HF : Hid (Ws n0 (w6.setCell ⟨wb, 3, none⟩ (.slice (some ⟨g6, 0, none⟩) (Th.length + 1) cap6)) wb b ab ag nt c top' ws' B' L' (Th ++ [⟨qa, o.s, k', p', r', a', y', o.h, fun _ => 0, w5.heap.size⟩]) (.slice (some ⟨g6, 0, none⟩) (Th.length + 1) cap6)) := S9
      have HG : Hid (Below n0 w (w6.setCell ⟨wb, 3, none⟩ (.slice (some ⟨g6, 0, none⟩) (Th.length + 1) cap6))) := HB5.out.trans (b9.mono (Nat.le_refl _))
      clear S9 b9 t9 r6 hg6 ha6 d1 e1
      go_wp2
      go_ret
      exact ⟨rfl, HG.out, top', ws', B', ⟨L', _, _, HF.out⟩, Hs5.out.2⟩
end
end Go.Proofs.YtpiemfchjlihfaaDoor
