/-
  step: KRaw; any other kind. (Printed by mkBS7.py.)
-/
import Derived.Test.YtpiemfchjlihfaaDoorBS5a
import Derived.Test.YtpiemfchjlihfaaDoorPKa
set_option linter.unusedVariables false
set_option maxRecDepth 20000
namespace Go.Proofs.YtpiemfchjlihfaaDoor
open Go.RowKit Go.Shelf

theorem laid_alloc (w : World) : (Instr.alloc 56 true (.tuple #[])).run Tryd.prog w = .ok (.pointer (some ⟨w.heap.size, 0, none⟩)) (w.alloc (.cells #[.int .i64 0, .int .u64 0, .int .i64 0, .int .i64 0, .int .i64 0, .int .i64 0, .int .i64 0, .bool false, .slice none 0 0] 56 (0, 0))) := by kernel_rfl

theorem enters_among : Enters Tryd.prog 8 := enters_of (fn := Tryd.f8) Tryd.func8 (by kernel_rfl) rfl

theorem linfo9 : (Tryd.prog.info? 56).map (·.size) = some 9 := by kernel_rfl

theorem oflat_set {Th : List Ob} {i : Nat} {T U : Ob} (hi : Th[i]? = some T) (hc : U.cells = T.cells) : oflat (Th.set i U) = oflat Th := by
  have hil : i < Th.length := (List.getElem?_eq_some_iff.1 hi).1
  unfold oflat
  congr 1
  rw [List.map_set]
  apply List.ext_getElem?
  intro q
  rw [List.getElem?_set]
  split
  · rename_i e
    subst e
    rw [List.getElem?_map, hi]
    simp only [List.length_map, hil, if_true, Option.map_some]
    exact congrArg (fun z => some (Array.toList z)) hc
  · rfl

section
variable {n0 : Nat} {w w' : World} {wb b ab ag nt : Nat} {c : Cfg} {top : Nat} {ws : Nat → Int} {B : Bfs} {L : List Sg} {Th : List Ob} {lv : Value}

/-- An object's list of raw fields is written. -/
theorem Ws.field (S : Ws n0 w wb b ab ag nt c top ws B L Th lv) {i : Nat} {T : Ob} (hi : Th[i]? = some T) {j : Nat} (hj : j < T.r) (v : Int) (hn0 : n0 ≤ w.heap.size) :
    Bw n0 (w.setCell ⟨T.gr, j, none⟩ (.int .u64 v)) b ab ag c (xt c top) ws B ∧ (w.setCell ⟨T.gr, j, none⟩ (.int .u64 v)).heap[wb]? = w.heap[wb]? ∧ Mo (w.setCell ⟨T.gr, j, none⟩ (.int .u64 v)) n0 ag lv (Th.set i { T with raws := upd T.raws j v }) ∧ Below n0 w (w.setCell ⟨T.gr, j, none⟩ (.int .u64 v)) := by
  have hil : i < Th.length := (List.getElem?_eq_some_iff.1 hi).1
  obtain ⟨h1, h2, h3⟩ := S.mo.rb T (List.mem_of_getElem? hi)
  have t1 : Touch [T.gr] w (w.setCell ⟨T.gr, j, none⟩ (.int .u64 v)) := Touch.setCell _ _ _ (by simp)
  have lo : ∀ z, z ∈ [T.gr] → n0 ≤ z := fun z hz => by
    simp only [List.mem_cons, List.not_mem_nil, or_false] at hz
    omega
  have one : ∀ {p : Nat}, p ≠ T.gr → p ∉ [T.gr] := fun h => by
    simp only [List.mem_cons, List.not_mem_nil, or_false]
    exact h
  have hwb : wb ≠ T.gr := fun e => by
    obtain ⟨c1, e1, _⟩ := h1
    rw [← e, S.wq] at e1
    injection e1 with e2
    injection e2 with _ e3
    revert e3
    decide
  have hlv : lv.ownBlock ≠ some T.gr := fun e => by
    obtain ⟨c1, e1, _⟩ := h1
    exact row_ne e1 S.mo.row (by decide) e.symm
  have ix : ∀ q (U : Ob), (Th.set i { T with raws := upd T.raws j v })[q]? = some U → (q = i ∧ U = { T with raws := upd T.raws j v }) ∨ (q ≠ i ∧ Th[q]? = some U) := fun q U h => by
    rw [List.getElem?_set] at h
    split at h
    · rename_i e
      exact .inl ⟨e.symm, (Option.some.inj h).symm⟩
    · rename_i e
      exact .inr ⟨fun e' => e e'.symm, h⟩
  refine ⟨S.bw.touch t1 (one (rowIs_ne S.bw.bf.own h1 (by decide))) (one (rowIs_ne S.bw.ar.own h1 (by decide))) (one h3.symm) lo, Below.heap_setCell _ _ _ _ hwb, ⟨?_, ?_, ?_⟩, t1.below hn0 lo⟩
  · rw [oflat_set (U := { T with raws := upd T.raws j v }) hi rfl, List.length_set]
    exact row_keep S.mo.row (fun q hq => Below.heap_setCell _ _ _ _ (fun e => hlv (by rw [hq]; exact congrArg some e)))
  · intro U hU
    obtain ⟨q, hq⟩ := List.getElem?_of_mem hU
    rcases ix q U hq with ⟨_, rfl⟩ | ⟨hne, hq'⟩
    · refine ⟨(h1.set j (.int .u64 v)).congr (fun k hk => ?_), h2, h3⟩
      show (if k = j then Value.int .u64 v else Value.int .u64 (T.raws k)) = Value.int .u64 (if k = j then v else T.raws k)
      split
      · rfl
      · rfl
    · obtain ⟨g1, g2, g3⟩ := S.mo.rb U (List.mem_of_getElem? hq')
      exact ⟨g1.of_block (t1.block _ g1.lt (one (S.mo.dp q i U T hq' hi hne))), g2, g3⟩
  · intro p q U V hp hq hpq
    rcases ix p U hp with ⟨e1, rfl⟩ | ⟨e1, h4⟩
    · rcases ix q V hq with ⟨e2, rfl⟩ | ⟨e2, h5⟩
      · omega
      · exact S.mo.dp i q T V hi h5 (fun e => e2 e.symm)
    · rcases ix q V hq with ⟨e2, rfl⟩ | ⟨e2, h5⟩
      · exact S.mo.dp p i U T h4 hi e1
      · exact S.mo.dp p q U V h4 h5 hpq

/-- And the arena's word. -/
theorem Ws.rawDone {w1 w2 : World} {i : Nat} {T : Ob} {j : Nat} {v : Int} (S : Ws n0 w wb b ab ag nt c top ws B L Th lv) (hi : Th[i]? = some T) (hj : j < T.r) (hv : Wd v)
    (hB : Bw n0 w1 b ab ag c (xt c top) ws B) (hq : w1.heap[wb]? = w.heap[wb]?) (hM : Mo w1 n0 ag lv (Th.set i { T with raws := upd T.raws j v })) (hA : Ar w2 ab ag c (xt c top) false (upd ws (T.at_ + 2 + T.p + j) v)) (l : Touch [ag] w1 w2) (hn : n0 ≤ w1.heap.size) :
    Ws n0 w2 wb b ab ag nt c top (upd ws (T.at_ + 2 + T.p + j) v) B L (Th.set i { T with raws := upd T.raws j v }) lv ∧ Below n0 w1 w2 := by
  have one : ∀ {p : Nat}, p ≠ ag → p ∉ [ag] := fun h => by
    simp only [List.mem_cons, List.not_mem_nil, or_false]
    exact h
  have hg : 1 ∉ [ag] ∧ 0 ∉ [ag] := by
    have h1 := hB.lo
    have h2 := hB.gl
    exact ⟨one (by omega), one (by omega)⟩
  have hlo : ∀ z, z ∈ [ag] → n0 ≤ z := fun z hz => by
    simp only [List.mem_cons, List.not_mem_nil, or_false] at hz
    rw [hz]
    exact hB.lo.2.2
  have hwb : wb ≠ ag := fun e => by
    obtain ⟨c1, e1, _⟩ := S.bw.ar.row
    rw [← e, S.wq] at e1
    injection e1 with e2
    injection e2 with _ e3
    revert e3
    decide
  have hWl : wb < w1.heap.size := by
    have h9 := hq.trans S.wq
    exact (Array.getElem?_eq_some_iff.1 h9).1
  refine ⟨⟨⟨hB.bf.touch l (one hB.ne.2), hA, hB.ld.touch l hg.1 hg.2, hB.ne, hB.lo, hB.gl, hB.rs⟩, S.wo.raw hi hj hv, (l.block wb hWl (one hwb)).trans (hq.trans S.wq), hM.keep (fun q hq' => l.block q (row_lt hM.row q hq') (one ?_)) (fun U hU => ?_), S.lo, S.nt⟩, l.below hn hlo⟩
  · obtain ⟨c1, e1, _⟩ := hB.ar.row
    exact fun e => row_ne e1 hM.row (by decide) (by rw [hq', e])
  · obtain ⟨g1, g2, g3⟩ := hM.rb U hU
    exact l.block _ g1.lt (one g3)

set_option maxHeartbeats 8000000 in
theorem step_raw (S : Ws n0 w wb b ab ag nt c top ws B L Th lv) (hn0 : n0 ≤ w.heap.size) (o : Op13) (ho : o.Ok) (hk : o.k = 6) :
    Calls Tryd.prog 15 #[.pointer (some ⟨wb, 0, none⟩), o.val] w fun e w' => e = .returned (.bool true) ∧ Below n0 w w' ∧ ∃ top' ws' B' L' Th' lv', Ws n0 w' wb b ab ag nt c top' ws' B' L' Th' lv' ∧ B'.size = B.size := by
  obtain ⟨a0, cap0, hlv0⟩ := S.mo.sl
  subst hlv0
  have Hon : Hid (I64 o.n) := ho.n
  have Hoi : Hid (I64 o.i) := ho.i
  have How : Hid (Wd o.w) := ho.w
  have HS : Hid (Ws n0 w wb b ab ag nt c top ws B L Th (.slice a0 Th.length cap0)) := S
  have hnt : 1 ≤ nt ∧ nt ≤ 8 := by have := S.bw.bf.n1; have := S.bw.bf.n0; have := S.nt; omega
  obtain ⟨tt, htt, HT0⟩ := among13_nat o.t nt ho.t.1 ho.t.2 ⟨by omega, by omega⟩
  have HT : Hid (∀ w : World, Calls Tryd.prog 8 #[.int .i64 o.t, .int .i64 nt] w fun e w' => e = .returned (.int .i64 tt) ∧ Below w.heap.size w w') := fun w => (HT0 w).mono fun _ _ h => ⟨h.1, h.2 ▸ Below.refl _ _⟩
  obtain ⟨k', p', r', a', y', hf, hp1, hr1, hp2, HD0⟩ := sound13_any o.s o.kd o.p o.r o.a o.y o.h ho.kd ho.p ho.r ho.a ho.y
  have HD : Hid (∀ w : World, Calls Tryd.prog 33 #[hv o.s o.kd o.p o.r o.a o.y o.h] w fun e w' => e = .returned (hv o.s k' p' r' a' y' o.h) ∧ Below w.heap.size w w') := HD0
  have Hn0 : Hid (n0 ≤ w.heap.size) := hn0
  have HKK : Hid (o.k = 6) := hk
  clear S HT0 HD0 ho hn0
  go_enter Tryd.func15, Tryd.ntmps15
  go_upto_region 1 with fail
  have B0 : Below w.heap.size w (w.alloc (.cells o.cells 49)) := Below.alloc (Below.refl _ _) (Nat.le_refl _) _
  have X0 := heap_alloc_new w (.cells o.cells 49)
  generalize w.alloc (.cells o.cells 49) = v at *
  have HX : Hid (v.heap[w.heap.size]? = some (.cells o.cells 49 (0, 0))) := X0
  have HB : Hid (Below w.heap.size w v) := B0
  have HSv : Hid (Ws n0 v wb b ab ag nt c top ws B L Th (.slice a0 Th.length cap0)) := HS.out.below B0
  have hXl : w.heap.size < v.heap.size := (Array.getElem?_eq_some_iff.1 X0).1
  have hWl : wb < v.heap.size := (Array.getElem?_eq_some_iff.1 HSv.out.wq).1
  haveI hinh : Inhabited (Kg.Bel v) := ⟨⟨v, Below.refl _ _⟩⟩
  have z0 : ∀ p : Kg.Bel v, p.v.cell? ⟨w.heap.size, 1, none⟩ = some (.int .i64 o.t) := fun p => (p.h.cell (p := ⟨w.heap.size, 1, none⟩) hXl).trans (cell_of_row _ _ 1 _ _ _ X0)
  have z1 : ∀ p : Kg.Bel v, p.v.cell? ⟨wb, 2, none⟩ = some (.int .i64 nt) := fun p => (p.h.cell (p := ⟨wb, 2, none⟩) hWl).trans HSv.out.wp.c2
  clear X0 B0
  refine Kg.region_below Kg.mixed (by kernel_rfl) ?_
  repeat (go_big_quiet_step (first | (go_at_call 8; exact Kg.calls_bel (HT.out _))))
  refine wpQuiet_nil ?_
  rintro w1 ⟨⟨w1, b1⟩, rfl⟩
  have HB1 : Hid (Below v.heap.size v w1) := b1
  have X1 : w1.heap[w.heap.size]? = some (.cells o.cells 49 (0, 0)) := (b1.block _ hXl).trans HX.out
  clear z0 z1 hinh b1 HT hXl hWl
  have x0 : w1.cell? ⟨w.heap.size, 0, none⟩ = some (.int .i64 6) := by rw [← hk]; exact cell_of_row _ _ 0 _ _ _ X1
  have x2 : w1.cell? ⟨w.heap.size, 2, none⟩ = some (.int .u64 o.s) := cell_of_row _ _ 2 _ _ _ X1
  have x3 : w1.cell? ⟨w.heap.size, 3, none⟩ = some (.int .i64 o.kd) := cell_of_row _ _ 3 _ _ _ X1
  have x4 : w1.cell? ⟨w.heap.size, 4, none⟩ = some (.int .i64 o.p) := cell_of_row _ _ 4 _ _ _ X1
  have x5 : w1.cell? ⟨w.heap.size, 5, none⟩ = some (.int .i64 o.r) := cell_of_row _ _ 5 _ _ _ X1
  have x6 : w1.cell? ⟨w.heap.size, 6, none⟩ = some (.int .i64 o.a) := cell_of_row _ _ 6 _ _ _ X1
  have x7 : w1.cell? ⟨w.heap.size, 7, none⟩ = some (.int .i64 o.y) := cell_of_row _ _ 7 _ _ _ X1
  have x8 : w1.cell? ⟨w.heap.size, 8, none⟩ = some (.bool o.h) := cell_of_row _ _ 8 _ _ _ X1
  have HX1 : Hid (w1.heap[w.heap.size]? = some (.cells o.cells 49 (0, 0))) := X1
  have q := HD.out w1
  clear X1 HD
  go_wp2_with fail
  refine q.mono ?_
  rintro e w2 ⟨rfl, b2⟩
  have HB2 : Hid (Below w1.heap.size w1 w2) := b2
  clear q b2 x2 x3 x4 x5 x6 x7 x8 x0
  go_upto_region 3 with fail
  have B3 : Below v.heap.size v (w2.alloc (.cells (hcells o.s k' p' r' a' y' o.h) 38)) := Below.alloc (HB1.out.trans (HB2.out.mono HB1.out.size)) ((HB1.out.trans (HB2.out.mono HB1.out.size)).size) _
  have X3 : (w2.alloc (.cells (hcells o.s k' p' r' a' y' o.h) 38)).heap[w.heap.size]? = some (.cells o.cells 49 (0, 0)) := (B3.block _ (Array.getElem?_eq_some_iff.1 HX.out).1).trans HX.out
  have Y3 := heap_alloc_new w2 (.cells (hcells o.s k' p' r' a' y' o.h) 38)
  have hYl : w.heap.size ≤ w2.heap.size := by have := HB.out.size; have := HB1.out.size; have := HB2.out.size; omega
  generalize w2.alloc (.cells (hcells o.s k' p' r' a' y' o.h) 38) = v3 at *
  have HB3 : Hid (Below w.heap.size w v3) := HB.out.trans (B3.mono HB.out.size)
  have HX3 : Hid (v3.heap[w.heap.size]? = some (.cells o.cells 49 (0, 0))) := X3
  have HY3 : Hid (v3.heap[w2.heap.size]? = some (.cells (hcells o.s k' p' r' a' y' o.h) 38 (0, 0))) := Y3
  have HS3 : Hid (Ws n0 v3 wb b ab ag nt c top ws B L Th (.slice a0 Th.length cap0)) := HS.out.below HB3.out
  have x0 : v3.cell? ⟨w.heap.size, 0, none⟩ = some (.int .i64 6) := by rw [← hk]; exact cell_of_row _ _ 0 _ _ _ X3
  clear B3 X3 Y3 HSv HX1 HB2 HB1 HX HB hk
  generalize w2.heap.size = Y at *
  clear x0
  have x3 : v3.cell? ⟨wb, 3, none⟩ = some (.slice a0 Th.length cap0) := HS3.out.c3
  have x0 : v3.cell? ⟨w.heap.size, 0, none⟩ = some (.int .i64 6) := by rw [← HKK.out]; exact cell_of_row _ _ 0 _ _ _ HX3.out
  have hTl : Th.length ≤ 70000 := by
    have h1 := obs_length HS3.out.wo.ch
    have h2 := HS3.out.wo.ch.top
    have h3 := HS3.out.topl.1
    have h4 : (obs 1 L).length = Th.length := by have := HS3.out.wo.ob.length_eq; simpa using this
    omega
  go_upto_region 18 with fail
  clear x0
  by_cases hl : Th.length = 0
  · have hl' : ¬ (0 : Int) < (Th.length : Int) := by omega
    have HZ : Hid (Below n0 w v3) := HB3.out.mono Hn0.out
    go_wp2
    go_ret
    exact ⟨rfl, HZ.out, top, ws, B, ⟨L, Th, _, HS3.out⟩, rfl⟩
  have hl' : (0 : Int) < (Th.length : Int) := by omega
  go_upto_region 19 with fail
  obtain ⟨i, hi, HA0⟩ := among13_nat o.n Th.length Hon.out.1 Hon.out.2 ⟨by omega, by omega⟩
  have HA : Hid (∀ w : World, Calls Tryd.prog 8 #[.int .i64 o.n, .int .i64 Th.length] w fun e w' => e = .returned (.int .i64 i) ∧ w' = w) := fun w => (HA0 w).mono fun _ _ h => ⟨h.1, h.2.symm⟩
  obtain ⟨T, hT⟩ : ∃ T, Th[i]? = some T := ⟨_, List.getElem?_eq_getElem hi⟩
  obtain ⟨q9, hla, hq9, hcs⟩ := HS3.out.mo.cell hT
  have HTi : Hid (Th[i]? = some T) := hT
  subst hla
  haveI hinh : Inhabited (Kg.Bel v3) := ⟨⟨v3, Below.refl _ _⟩⟩
  have hXl3 : w.heap.size < v3.heap.size := (Array.getElem?_eq_some_iff.1 HX3.out).1
  have hWl3 : wb < v3.heap.size := (Array.getElem?_eq_some_iff.1 HS3.out.wq).1
  have hii : (i : Int) < (Th.length : Int) := by omega
  have u0 : ∀ p : Kg.Bel v3, p.v.cell? ⟨q9, i * 9, none⟩ = some (.int .i64 T.at_) := fun p => (p.h.cell (p := ⟨q9, i * 9, none⟩) hq9).trans (hcs 0 (by omega))
  have u1 : ∀ p : Kg.Bel v3, p.v.cell? ⟨q9, i * 9 + 1, none⟩ = some (.int .u64 T.s) := fun p => (p.h.cell (p := ⟨q9, i * 9 + 1, none⟩) hq9).trans (hcs 1 (by omega))
  have u2 : ∀ p : Kg.Bel v3, p.v.cell? ⟨q9, i * 9 + 2, none⟩ = some (.int .i64 T.k) := fun p => (p.h.cell (p := ⟨q9, i * 9 + 2, none⟩) hq9).trans (hcs 2 (by omega))
  have u3 : ∀ p : Kg.Bel v3, p.v.cell? ⟨q9, i * 9 + 3, none⟩ = some (.int .i64 T.p) := fun p => (p.h.cell (p := ⟨q9, i * 9 + 3, none⟩) hq9).trans (hcs 3 (by omega))
  have u4 : ∀ p : Kg.Bel v3, p.v.cell? ⟨q9, i * 9 + 4, none⟩ = some (.int .i64 T.r) := fun p => (p.h.cell (p := ⟨q9, i * 9 + 4, none⟩) hq9).trans (hcs 4 (by omega))
  have u5 : ∀ p : Kg.Bel v3, p.v.cell? ⟨q9, i * 9 + 5, none⟩ = some (.int .i64 T.a) := fun p => (p.h.cell (p := ⟨q9, i * 9 + 5, none⟩) hq9).trans (hcs 5 (by omega))
  have u6 : ∀ p : Kg.Bel v3, p.v.cell? ⟨q9, i * 9 + 6, none⟩ = some (.int .i64 T.y) := fun p => (p.h.cell (p := ⟨q9, i * 9 + 6, none⟩) hq9).trans (hcs 6 (by omega))
  have u7 : ∀ p : Kg.Bel v3, p.v.cell? ⟨q9, i * 9 + 7, none⟩ = some (.bool T.h) := fun p => (p.h.cell (p := ⟨q9, i * 9 + 7, none⟩) hq9).trans (hcs 7 (by omega))
  have u8 : ∀ p : Kg.Bel v3, p.v.cell? ⟨q9, i * 9 + 8, none⟩ = some (.slice (some ⟨T.gr, 0, none⟩) T.r T.r) := fun p => (p.h.cell (p := ⟨q9, i * 9 + 8, none⟩) hq9).trans (hcs 8 (by omega))
  have u9 : ∀ p : Kg.Bel v3, p.v.cell? ⟨w.heap.size, 9, none⟩ = some (.int .i64 o.n) := fun p => (p.h.cell (p := ⟨w.heap.size, 9, none⟩) hXl3).trans (cell_of_row _ _ 9 _ _ _ HX3.out)
  have u10 : ∀ p : Kg.Bel v3, p.v.cell? ⟨wb, 3, none⟩ = some (.slice (some ⟨q9, 0, none⟩) Th.length cap0) := fun p => (p.h.cell (p := ⟨wb, 3, none⟩) hWl3).trans x3
  clear hcs hq9 hT HA0 x3
  refine Kg.alloc_call 11 14 _ _ 56 _ rfl rfl rfl rfl laid_alloc Kg.mixed (by kernel_rfl) ?_
  simp only [List.take_succ_cons, List.take_zero, List.drop_succ_cons, List.drop_zero]
  repeat (go_big_quiet_step (fail))
  refine wpQuiet_nil ⟨.int .i64 i, .inl ⟨rfl, ?_⟩, ?_⟩
  · rintro _ ⟨p, rfl⟩
    refine .inr ⟨8, #[.int .i64 o.n, .int .i64 Th.length], ?_, (HA.out _).mono fun _ _ h => ⟨h.1, h.2 ▸ Below.refl _ _⟩⟩
    have hE := enters_among (#[.int .i64 o.n, .int .i64 Th.length] : Array Value) p.v
    simp [Act.eval, hE, go_sem]
  simp only [Act.put, List.setIfInBounds_toArray, List.set_cons_succ, List.set_cons_zero]
  repeat (go_big_quiet_step (fail))
  refine wpQuiet_nil ?_
  rintro ⟨v4, b4⟩ X hX hob
  simp only [List.setIfInBounds_toArray, List.set_cons_succ, List.set_cons_zero]
  go_upto_region 20 with (refine wpList_store_row rfl 56 _ _ rfl X T.cells rfl rfl 56 _ hob linfo9 rfl (by kernel_rfl) ?_)
  have HX5 : Hid ((v4.setRow X T.cells).heap[X]? = some (.cells T.cells 56 (0, 0))) := setRow_heap _ _ _ _ _ _ hob
  have B5 : Below v3.heap.size v3 (v4.setRow X T.cells) := below_setRow b4 hX _
  clear u0 u1 u2 u3 u4 u5 u6 u7 u8 u9 u10 hinh HA hob
  generalize v4.setRow X T.cells = v5 at *
  have HS5 : Hid (Ws n0 v5 wb b ab ag nt c top ws B L Th (.slice (some ⟨q9, 0, none⟩) Th.length cap0)) := HS3.out.below B5
  have HB5 : Hid (Below w.heap.size w v5) := HB3.out.trans (B5.mono HB3.out.size)
  have HO5 : Hid (v5.heap[w.heap.size]? = some (.cells o.cells 49 (0, 0))) := (B5.block _ hXl3).trans HX3.out
  have hTm : T ∈ Th := List.mem_of_getElem? HTi.out
  have hTr : T.r ≤ 70000 := by
    have h1 := (HS5.out.stands hTm).2.2.2.2.2.2.2
    have h2 := HS5.out.topl.1
    have h3 : T.n = 2 + T.p + T.r := rfl
    omega
  have HTm : Hid (T ∈ Th) := hTm
  clear B5 b4 hX HS3 HB3 HX3 HY3 hXl3 hWl3 hii hTm
  have e8 : v5.cell? ⟨X, 8, none⟩ = some (.slice (some ⟨T.gr, 0, none⟩) T.r T.r) := cell_of_row _ _ 8 _ _ _ HX5.out
  by_cases hr : T.r = 0
  · have hr' : ¬ (0 : Int) < (T.r : Int) := by omega
    have HZ : Hid (Below n0 w v5) := HB5.out.mono Hn0.out
    go_wp2
    go_ret
    exact ⟨rfl, HZ.out, top, ws, B, ⟨L, Th, _, HS5.out⟩, rfl⟩
  have hr' : (0 : Int) < (T.r : Int) := by omega
  obtain ⟨j, hj, HA1⟩ := among13_nat o.i T.r Hoi.out.1 Hoi.out.2 ⟨by omega, by omega⟩
  have q := HA1 v5
  have e10 : v5.cell? ⟨w.heap.size, 10, none⟩ = some (.int .i64 o.i) := cell_of_row _ _ 10 _ _ _ HO5.out
  clear HA1
  go_wp2_with fail
  refine q.mono ?_
  rintro e w6 ⟨rfl, rfl⟩
  have e11 : v5.cell? ⟨w.heap.size, 11, none⟩ = some (.int .u64 o.w) := cell_of_row _ _ 11 _ _ _ HO5.out
  have hjj : (j : Int) < (T.r : Int) := by omega
  have g0 : v5.cell? ⟨T.gr, j, none⟩ = some (.int .u64 (T.raws j)) := (HS5.out.mo.rb T HTm.out).1.cell hj
  have g1 : v5.frozen? ⟨T.gr, j, none⟩ = false := (HS5.out.mo.rb T HTm.out).1.frozen j
  have Hgr : Hid (T.gr ≠ X ∧ T.gr ≠ w.heap.size) := ⟨fun e => by
    obtain ⟨c1, h1, _⟩ := (HS5.out.mo.rb T HTm.out).1
    rw [e, HX5.out] at h1
    injection h1 with h2
    injection h2 with _ h3
    revert h3
    decide, fun e => by
    obtain ⟨c1, h1, _⟩ := (HS5.out.mo.rb T HTm.out).1
    rw [e, HO5.out] at h1
    injection h1 with h2
    injection h2 with _ h3
    revert h3
    decide⟩
  clear q e10
  go_upto_region 23 with fail
  obtain ⟨bw6, hq6, mo6, bl6⟩ := HS5.out.field HTi.out hj o.w (Nat.le_trans Hn0.out HB5.out.size)
  have HX6 : Hid ((v5.setCell ⟨T.gr, j, none⟩ (.int .u64 o.w)).heap[X]? = some (.cells T.cells 56 (0, 0))) := (Below.heap_setCell _ _ _ _ Hgr.out.1.symm).trans HX5.out
  have HO6 : Hid ((v5.setCell ⟨T.gr, j, none⟩ (.int .u64 o.w)).heap[w.heap.size]? = some (.cells o.cells 49 (0, 0))) := (Below.heap_setCell _ _ _ _ Hgr.out.2.symm).trans HO5.out
  have HB6 : Hid (Below n0 w (v5.setCell ⟨T.gr, j, none⟩ (.int .u64 o.w))) := (HB5.out.mono Hn0.out).trans (bl6.mono (Nat.le_refl _))
  clear g0 g1 e8 e11 bl6
  generalize v5.setCell ⟨T.gr, j, none⟩ (.int .u64 o.w) = v6 at *
  have HW6 : Hid (Bw n0 v6 b ab ag c (xt c top) ws B) := bw6
  have HQ6 : Hid (v6.heap[wb]? = v5.heap[wb]?) := hq6
  have HM6 : Hid (Mo v6 n0 ag (.slice (some ⟨q9, 0, none⟩) Th.length cap0) (Th.set i { T with raws := upd T.raws j o.w })) := mo6
  clear bw6 hq6 mo6
  have hXl : X < v6.heap.size := (Array.getElem?_eq_some_iff.1 HX6.out).1
  have hOl : w.heap.size < v6.heap.size := (Array.getElem?_eq_some_iff.1 HO6.out).1
  have hQ6 := HQ6.out.trans HS5.out.wq
  have hWl : wb < v6.heap.size := (Array.getElem?_eq_some_iff.1 hQ6).1
  haveI hinh : Inhabited (Kg.Bel v6) := ⟨⟨v6, Below.refl _ _⟩⟩
  have z0 : ∀ p : Kg.Bel v6, p.v.cell? ⟨wb, 0, none⟩ = some (.pointer (some ⟨ab, 0, none⟩)) := fun p => (p.h.cell (p := ⟨wb, 0, none⟩) hWl).trans (cell_of_row _ _ 0 _ _ _ hQ6)
  have z1 : ∀ p : Kg.Bel v6, p.v.cell? ⟨X, 0, none⟩ = some (.int .i64 T.at_) := fun p => (p.h.cell (p := ⟨X, 0, none⟩) hXl).trans (cell_of_row _ _ 0 _ _ _ HX6.out)
  have z2 : ∀ p : Kg.Bel v6, p.v.cell? ⟨w.heap.size, 11, none⟩ = some (.int .u64 o.w) := fun p => (p.h.cell (p := ⟨w.heap.size, 11, none⟩) hOl).trans (cell_of_row _ _ 11 _ _ _ HO6.out)
  clear hQ6
  refine Kg.below_call 9 Kg.mixed (by kernel_rfl) ?_
  simp only [List.take_succ_cons, List.take_zero, List.drop_succ_cons, List.drop_zero]
  repeat (go_big_quiet_step (fail))
  refine wpQuiet_nil ?_
  rintro w7 ⟨⟨w7, b7⟩, rfl⟩
  have HW7 : Hid (Bw n0 w7 b ab ag c (xt c top) ws B) := HW6.out.below b7
  have HQ7 : Hid (w7.heap[wb]? = v5.heap[wb]?) := (b7.block wb hWl).trans HQ6.out
  have HM7 : Hid (Mo w7 n0 ag (.slice (some ⟨q9, 0, none⟩) Th.length cap0) (Th.set i { T with raws := upd T.raws j o.w })) := HM6.out.below b7
  have HB7 : Hid (Below n0 w w7) := HB6.out.trans (b7.mono (Nat.le_trans Hn0.out HB6.out.size))
  obtain ⟨h1, h2, h3, h4, -, -, -, -⟩ := HS5.out.stands HTm.out
  obtain ⟨p1, p2, p3, p4, p5, p6⟩ := (HS5.out.wo.th T HTm.out).parts
  have q := setRaw_in ab ag c (xt c top) false ws T.at_ 1 j o.w How.out h1 (by decide) h2 h3 (by rw [h4, p3]; omega) w7 HW7.out.ar HW7.out.ld
  rw [h4, p2] at q
  have Hq : Hid (Calls Tryd.prog 35 #[.pointer (some ⟨ab, 0, none⟩), .int .i64 T.at_, .int .i64 j, .int .u64 o.w] w7 fun e w' => e = .returned (.bool true) ∧ Ar w' ab ag c (xt c top) false (upd ws (T.at_ + 2 + T.p + j) o.w) ∧ Touch [ag] w7 w') := q.mono fun e w' ⟨e1, e2, e3⟩ => ⟨e1, by
    have e9 : (T.at_ : Int).toNat + (2 + (T.p : Int).toNat) + j = T.at_ + 2 + T.p + j := by omega
    rw [e9] at e2
    exact e2, e3⟩
  clear q h1 h2 h3 h4 p1 p2 p3 p4 p5 p6 z0 z1 z2 hinh b7 hXl hOl hWl
  go_wp2_with fail
  refine Hq.out.mono ?_
  rintro e w8 ⟨rfl, ar8, t8⟩
  obtain ⟨S8, b8⟩ := Ws.rawDone HS5.out HTi.out hj How.out HW7.out HQ7.out HM7.out ar8 t8 (Nat.le_trans Hn0.out HB7.out.size)
  have HF : Hid (Ws n0 w8 wb b ab ag nt c top (upd ws (T.at_ + 2 + T.p + j) o.w) B L (Th.set i { T with raws := upd T.raws j o.w }) (.slice (some ⟨q9, 0, none⟩) Th.length cap0)) := S8
  have HZ : Hid (Below n0 w w8) := HB7.out.trans (b8.mono (Nat.le_refl _))
  clear Hq ar8 t8 S8 b8
  go_wp2_with fail
  refine Kg.thenQuiet_mk ?_
  repeat (go_big_quiet_step (fail))
  refine wpQuiet_nil ?_
  go_wp2
  go_ret
  exact ⟨rfl, HZ.out, top, _, B, L, _, _, HF.out, rfl⟩
set_option maxHeartbeats 8000000 in
theorem step_none (S : Ws n0 w wb b ab ag nt c top ws B L Th lv) (hn0 : n0 ≤ w.heap.size) (o : Op13) (ho : o.Ok) (h1 : ¬ o.k = 1) (h4 : ¬ o.k = 4) (h5 : ¬ o.k = 5) (h6 : ¬ o.k = 6) (hk : True) :
    Calls Tryd.prog 15 #[.pointer (some ⟨wb, 0, none⟩), o.val] w fun e w' => e = .returned (.bool true) ∧ Below n0 w w' ∧ ∃ top' ws' B' L' Th' lv', Ws n0 w' wb b ab ag nt c top' ws' B' L' Th' lv' ∧ B'.size = B.size := by
  have HS : Hid (Ws n0 w wb b ab ag nt c top ws B L Th lv) := S
  have hnt : 1 ≤ nt ∧ nt ≤ 8 := by have := S.bw.bf.n1; have := S.bw.bf.n0; have := S.nt; omega
  obtain ⟨tt, htt, HT0⟩ := among13_nat o.t nt ho.t.1 ho.t.2 ⟨by omega, by omega⟩
  have HT : Hid (∀ w : World, Calls Tryd.prog 8 #[.int .i64 o.t, .int .i64 nt] w fun e w' => e = .returned (.int .i64 tt) ∧ Below w.heap.size w w') := fun w => (HT0 w).mono fun _ _ h => ⟨h.1, h.2 ▸ Below.refl _ _⟩
  obtain ⟨k', p', r', a', y', hf, hp1, hr1, hp2, HD0⟩ := sound13_any o.s o.kd o.p o.r o.a o.y o.h ho.kd ho.p ho.r ho.a ho.y
  have HD : Hid (∀ w : World, Calls Tryd.prog 33 #[hv o.s o.kd o.p o.r o.a o.y o.h] w fun e w' => e = .returned (hv o.s k' p' r' a' y' o.h) ∧ Below w.heap.size w w') := HD0
  have Hn0 : Hid (n0 ≤ w.heap.size) := hn0
  clear S HT0 HD0 ho hn0
  go_enter Tryd.func15, Tryd.ntmps15
  go_upto_region 1 with fail
  have B0 : Below w.heap.size w (w.alloc (.cells o.cells 49)) := Below.alloc (Below.refl _ _) (Nat.le_refl _) _
  have X0 := heap_alloc_new w (.cells o.cells 49)
  generalize w.alloc (.cells o.cells 49) = v at *
  have HX : Hid (v.heap[w.heap.size]? = some (.cells o.cells 49 (0, 0))) := X0
  have HB : Hid (Below w.heap.size w v) := B0
  have HSv : Hid (Ws n0 v wb b ab ag nt c top ws B L Th lv) := HS.out.below B0
  have hXl : w.heap.size < v.heap.size := (Array.getElem?_eq_some_iff.1 X0).1
  have hWl : wb < v.heap.size := (Array.getElem?_eq_some_iff.1 HSv.out.wq).1
  haveI hinh : Inhabited (Kg.Bel v) := ⟨⟨v, Below.refl _ _⟩⟩
  have z0 : ∀ p : Kg.Bel v, p.v.cell? ⟨w.heap.size, 1, none⟩ = some (.int .i64 o.t) := fun p => (p.h.cell (p := ⟨w.heap.size, 1, none⟩) hXl).trans (cell_of_row _ _ 1 _ _ _ X0)
  have z1 : ∀ p : Kg.Bel v, p.v.cell? ⟨wb, 2, none⟩ = some (.int .i64 nt) := fun p => (p.h.cell (p := ⟨wb, 2, none⟩) hWl).trans HSv.out.wp.c2
  clear X0 B0
  refine Kg.region_below Kg.mixed (by kernel_rfl) ?_
  repeat (go_big_quiet_step (first | (go_at_call 8; exact Kg.calls_bel (HT.out _))))
  refine wpQuiet_nil ?_
  rintro w1 ⟨⟨w1, b1⟩, rfl⟩
  have HB1 : Hid (Below v.heap.size v w1) := b1
  have X1 : w1.heap[w.heap.size]? = some (.cells o.cells 49 (0, 0)) := (b1.block _ hXl).trans HX.out
  clear z0 z1 hinh b1 HT hXl hWl
  have x0 : w1.cell? ⟨w.heap.size, 0, none⟩ = some (.int .i64 o.k) := cell_of_row _ _ 0 _ _ _ X1
  have x2 : w1.cell? ⟨w.heap.size, 2, none⟩ = some (.int .u64 o.s) := cell_of_row _ _ 2 _ _ _ X1
  have x3 : w1.cell? ⟨w.heap.size, 3, none⟩ = some (.int .i64 o.kd) := cell_of_row _ _ 3 _ _ _ X1
  have x4 : w1.cell? ⟨w.heap.size, 4, none⟩ = some (.int .i64 o.p) := cell_of_row _ _ 4 _ _ _ X1
  have x5 : w1.cell? ⟨w.heap.size, 5, none⟩ = some (.int .i64 o.r) := cell_of_row _ _ 5 _ _ _ X1
  have x6 : w1.cell? ⟨w.heap.size, 6, none⟩ = some (.int .i64 o.a) := cell_of_row _ _ 6 _ _ _ X1
  have x7 : w1.cell? ⟨w.heap.size, 7, none⟩ = some (.int .i64 o.y) := cell_of_row _ _ 7 _ _ _ X1
  have x8 : w1.cell? ⟨w.heap.size, 8, none⟩ = some (.bool o.h) := cell_of_row _ _ 8 _ _ _ X1
  have HX1 : Hid (w1.heap[w.heap.size]? = some (.cells o.cells 49 (0, 0))) := X1
  have q := HD.out w1
  clear X1 HD
  go_wp2_with fail
  refine q.mono ?_
  rintro e w2 ⟨rfl, b2⟩
  have HB2 : Hid (Below w1.heap.size w1 w2) := b2
  clear q b2 x2 x3 x4 x5 x6 x7 x8 x0
  go_upto_region 3 with fail
  have B3 : Below v.heap.size v (w2.alloc (.cells (hcells o.s k' p' r' a' y' o.h) 38)) := Below.alloc (HB1.out.trans (HB2.out.mono HB1.out.size)) ((HB1.out.trans (HB2.out.mono HB1.out.size)).size) _
  have X3 : (w2.alloc (.cells (hcells o.s k' p' r' a' y' o.h) 38)).heap[w.heap.size]? = some (.cells o.cells 49 (0, 0)) := (B3.block _ (Array.getElem?_eq_some_iff.1 HX.out).1).trans HX.out
  have Y3 := heap_alloc_new w2 (.cells (hcells o.s k' p' r' a' y' o.h) 38)
  have hYl : w.heap.size ≤ w2.heap.size := by have := HB.out.size; have := HB1.out.size; have := HB2.out.size; omega
  generalize w2.alloc (.cells (hcells o.s k' p' r' a' y' o.h) 38) = v3 at *
  have HB3 : Hid (Below w.heap.size w v3) := HB.out.trans (B3.mono HB.out.size)
  have HX3 : Hid (v3.heap[w.heap.size]? = some (.cells o.cells 49 (0, 0))) := X3
  have HY3 : Hid (v3.heap[w2.heap.size]? = some (.cells (hcells o.s k' p' r' a' y' o.h) 38 (0, 0))) := Y3
  have HS3 : Hid (Ws n0 v3 wb b ab ag nt c top ws B L Th lv) := HS.out.below HB3.out
  have x0 : v3.cell? ⟨w.heap.size, 0, none⟩ = some (.int .i64 o.k) := cell_of_row _ _ 0 _ _ _ X3
  clear B3 X3 Y3 HSv HX1 HB2 HB1 HX HB hk
  generalize w2.heap.size = Y at *
  have HZ : Hid (Below n0 w v3) := HB3.out.mono Hn0.out
  go_wp2
  go_ret
  exact ⟨rfl, HZ.out, top, ws, B, L, Th, lv, HS3.out, rfl⟩
end
end Go.Proofs.YtpiemfchjlihfaaDoor
