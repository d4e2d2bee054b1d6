/-
  Images, the document's reader: an object.
-/
import Derived.Test.YtblbiikfipcbcaaGreatDoorPQa
import Derived.Test.YtblbiikfipcbcaaGreatDoorIP9
import Derived.Test.YtblbiikfipcbcaaGreatDoorPRf
import Derived.Deep.Cut
import Derived.Deep.CutRange
set_option linter.unusedVariables false
set_option maxRecDepth 20000
namespace Go.Proofs.YtblbiikfipcbcaaGreatDoor
open Go.RowKit Go.Shelf

/-- A step that writes into what was new when it began. -/
theorem touch_new {w w1 w2 : World} {T : Nat} {F : List Nat} (h : Kg.Touch [T] w w1) (t : Kg.Touch F w1 w2) (hF : ∀ k, k ∈ F → k = T ∨ w.heap.size ≤ k) : Kg.Touch [T] w w2 :=
  ⟨t.os.trans h.os, t.tape.trans h.tape, t.output.trans h.output, Nat.le_trans h.size t.size, fun k hk hn => (t.block k (by have := h.size; omega) (fun hm => by
    rcases hF k hm with h9 | h9
    · exact hn (by simp [h9])
    · omega)).trans (h.block k hk hn)⟩

theorem touch5 (w : World) (A : Nat) (a b c d e : Value) : Kg.Touch [A] w (((((w.setCell ⟨A, 0, none⟩ a).setCell ⟨A, 1, none⟩ b).setCell ⟨A, 2, none⟩ c).setCell ⟨A, 3, none⟩ d).setCell ⟨A, 4, none⟩ e) := by
  refine Kg.Touch.trans ?_ (Kg.Touch.setCell _ _ _ (by simp))
  refine Kg.Touch.trans ?_ (Kg.Touch.setCell _ _ _ (by simp))
  refine Kg.Touch.trans ?_ (Kg.Touch.setCell _ _ _ (by simp))
  exact Kg.Touch.trans (Kg.Touch.setCell _ _ _ (by simp)) (Kg.Touch.setCell _ _ _ (by simp))

/-- Rows of two kinds lie apart. -/
theorem row_apart {w : World} {b1 b2 e1 e2 n1 n2 k : Nat} {u1 u2 : Value} {x1 x2 : List Value} (h1 : w.ownsRow b1 e1 1 u1 n1 x1) (h2 : w.ownsRow b2 e2 1 u2 n2 x2) (he : e1 ≠ e2) (k1 : u1.ownBlock = some k) (k2 : u2.ownBlock = some k) : False := by
  rcases h1.2 with ⟨rfl, -⟩ | ⟨g1, c1, cur1, rfl, -, hg1, -⟩
  · cases k1
  · rcases h2.2 with ⟨rfl, -⟩ | ⟨g2, c2, cur2, rfl, -, hg2, -⟩
    · cases k2
    · cases k1
      cases k2
      rw [hg1] at hg2
      cases hg2
      exact he rfl

/-- An object's five cells. -/
abbrev obc (s k t : Int) (vp vr : Value) : Array Value := #[.int .u64 s, .int .i64 k, .int .i64 t, vp, vr]

set_option maxHeartbeats 16000000 in
theorem tobject_any {w : World} {n0 T : Nat} {v : Value} {bs : List Nat} {st : Except (Nat × Nat) Nat} (h : Txt w n0 T v bs st) (hb : ∀ x, x ∈ bs → x < 256) (last : Nat) (hlast : last ≤ 4611686018427387904) :
    Calls Tryz.prog 14 #[.pointer (some ⟨T, 0, none⟩), .int .u64 (last : Int)] w fun e w' => ∃ (a k t : Nat) (ps rs : List Nat) (vp vr : Value), e = .returned (.tuple #[.agg (obc (Im.rser last a : Nat) k t vp vr), .bool (Im.over last a)]) ∧ k ≤ 4611686018427387905 ∧ t ≤ 4611686018427387905 ∧ ps.length ≤ bs.length ∧ rs.length ≤ bs.length ∧ w'.ownsRow w.heap.size 3 1 vp ps.length (lessV 0 ps) ∧ w'.ownsRow w.heap.size 26 1 vr rs.length (rs.map fun n : Nat => Value.int .u64 (n : Int)) ∧ Ans n0 T v bs w w' (Im.stp (Im.roP bs) st) (a, k, t, ps, rs) := by
  have Hb : Hid (∀ x, x ∈ bs → x < 256) := hb
  have hlo := h.lo
  have a0 := Below.alloc (Below.refl w.heap.size w) (Nat.le_refl _) (.cells zob 58)
  have g0 := heap_alloc_new w (.cells zob 58 (0, 0))
  have s0 : (w.alloc (.cells zob 58)).heap.size = w.heap.size + 1 := by simp
  have a1 := Below.alloc a0 a0.size (.cells zob 58)
  have g1 := heap_alloc_new (w.alloc (.cells zob 58)) (.cells zob 58 (0, 0))
  have f1 := (Below.heap_alloc (w.alloc (.cells zob 58)) (.cells zob 58 (0, 0)) _ (Kg.heap_lt g0)).trans g0
  rw [s0] at g1
  have h0 := (h.below a0).below (Below.alloc (Below.refl _ _) (Nat.le_refl _) (.cells zob 58))
  clear a0 g0 s0 h hb
  go_enter Tryz.func14, Tryz.ntmps14
  go_wp2_with fail
  generalize (w.alloc (.cells zob 58)).alloc (.cells zob 58) = W at *
  have T0 : Hid (Kg.Touch [T] w W) := Kg.Touch.of_below a1 _
  have hC := tnumber_any h0 Hb.out
  refine hC.mono ?_
  rintro e w1 ⟨a, ha, rfl, t1, h1, q1⟩
  have hA1 := (t1.block _ (Kg.heap_lt f1) (by simp; omega)).trans f1
  have hB1 := (t1.block _ (Kg.heap_lt g1) (by simp; omega)).trans g1
  have T1 : Hid (Kg.Touch [T] w w1) := T0.out.trans t1
  generalize hx1 : Im.stp (Im.number bs) st = x1 at *
  have X1 : Hid (Im.stp (Im.number bs) st = x1) := hx1
  have Q1 : Hid (∀ z q, x1 = .ok (z, q) → a = z) := q1
  have H1 : Hid (Txt w1 n0 T v bs (Im.pos x1)) := h1
  clear hC t1 f1 g1 T0 a1 h0 hx1 q1 h1 W
  go_upto_region 3 with fail
  go_cut [8] from 11 to 60 (fun v8 wq => v8 = .bool (Im.over last a) ∧ wq = w1)
  case first =>
    by_cases hg : 4611686018427387904 < a
    · have hgi : (a : Int) > 4611686018427387904 := by omega
      go_wp2
      go_meet
      case rel => exact ⟨by simp [Im.over, hg], rfl⟩
    · have hgi : ¬ (a : Int) > 4611686018427387904 := by omega
      have e9 : decide ((4611686018427387904 : Int) - (a : Int) < (last : Int)) = decide (4611686018427387904 - a < last) := by rw [decide_eq_decide]; omega
      go_wp2
      go_meet
      case rel => exact ⟨by simp [Im.over, hg], rfl⟩
  obtain ⟨rfl, hwc⟩ := hcut
  subst hwc
  obtain ⟨w2, hw2⟩ : ∃ w2, w2 = wc := ⟨_, rfl⟩
  subst hw2
  have HAB : Hid (w2.heap[w.heap.size]? = some (.cells zob 58 (0, 0)) ∧ w2.heap[w.heap.size + 1]? = some (.cells zob 58 (0, 0))) := ⟨hA1, hB1⟩
  have z0 := (Kg.heap_cell hB1 0).trans (show _ = some (.int .u64 0) from rfl)
  have f0 := Kg.heap_frozen hB1 0
  clear hA1 hB1
  go_upto_if 22 with fail
  go_cut [8] from 11 to 60 (fun v8 wq => v8 = .bool (Im.over last a) ∧ Hid (wq.heap[w.heap.size]? = some (.cells zob 58 (0, 0)) ∧ wq.heap[w.heap.size + 1]? = some (.cells (obc (Im.rser last a : Nat) 0 0 (.slice none 0 0) (.slice none 0 0)) 58 (0, 0)) ∧ Kg.Touch [T] w wq ∧ Txt wq n0 T v bs (Im.pos x1)))
  case first =>
    cases hov : Im.over last a with
    | true =>
      have er : Im.rser last a = 0 := by unfold Im.rser; rw [hov]; rfl
      have Er : Hid (Im.rser last a = 0) := er
      clear er
      go_wp2
      go_meet
      case rel =>
        refine ⟨by rw [hov], HAB.out.1, ?_, T1.out, H1.out⟩
        rw [Er.out]
        exact HAB.out.2
    | false =>
      have hno := Im.over_no hov
      have er : Im.rser last a = last + a := by unfold Im.rser; rw [hov]; rfl
      have Er : Hid (Im.rser last a = last + a) := er
      clear er
      go_wp2
      go_meet
      case rel =>
        have t3 : Kg.Touch [w.heap.size + 1] w2 (w2.setCell ⟨w.heap.size + 1, 0, none⟩ (.int .u64 ((last : Int) + (a : Int)))) := Kg.Touch.setCell _ _ _ (by simp)
        refine ⟨by rw [hov], (t3.block _ (Kg.heap_lt HAB.out.1) (by simp)).trans HAB.out.1, ?_, touch_new T1.out t3 (fun k hk => by simp at hk; omega), H1.out.touch t3 (fun k hk => by simp at hk; omega)⟩
        rw [Er.out, Kg.heap_set HAB.out.2 0 _]
        simp [zob]
  obtain ⟨rfl, hcut⟩ := hcut
  obtain ⟨w3, hw3⟩ : ∃ w3, w3 = wc := ⟨_, rfl⟩
  subst hw3
  clear HAB z0 f0 H1 T1
  have hA3 := hcut.out.1
  have hB3 := hcut.out.2.1
  have T3 : Hid (Kg.Touch [T] w w3) := hcut.out.2.2.1
  have hC := tnumber_any hcut.out.2.2.2 Hb.out
  clear hcut
  go_wp2_with fail
  refine hC.mono ?_
  rintro e w4 ⟨kd, hkd, rfl, t, h, q⟩
  have hA := (t.block _ (Kg.heap_lt hA3) (by simp; omega)).trans hA3
  have hB := (t.block _ (Kg.heap_lt hB3) (by simp; omega)).trans hB3
  have TT : Hid (Kg.Touch [T] w w4) := T3.out.trans t
  generalize hx : Im.stp (Im.number bs) (Im.pos x1) = x2 at *
  have X2 : Hid (Im.stp (Im.number bs) (Im.pos x1) = x2) := hx
  have Q2 : Hid (∀ z q, x2 = .ok (z, q) → kd = z) := q
  have HH : Hid (Txt w4 n0 T v bs (Im.pos x2)) := h
  have cc := (Kg.heap_cell hB 1).trans (show _ = some (.int .i64 0) from rfl)
  have ff := Kg.heap_frozen hB 1
  have hkw : IntKind.i64.wrap (kd : Int) = (kd : Int) := by rw [IntKind.wrap_i64]; omega
  clear hC t hA3 hB3 T3 hx q h
  go_upto_region 7 with fail
  have tt : Kg.Touch [w.heap.size + 1] w4 (w4.setCell ⟨w.heap.size + 1, 1, none⟩ (.int .i64 (kd : Int))) := Kg.Touch.setCell _ _ _ (by simp)
  have hB5 := (Kg.heap_set hB 1 (.int .i64 (kd : Int))).trans (show _ = some (.cells (obc (Im.rser last a : Nat) kd 0 (.slice none 0 0) (.slice none 0 0)) 58 (0, 0)) from rfl)
  have hA5 := (tt.block _ (Kg.heap_lt hA) (by simp)).trans hA
  have T5 : Hid (Kg.Touch [T] w (w4.setCell ⟨w.heap.size + 1, 1, none⟩ (.int .i64 (kd : Int)))) := touch_new TT.out tt (fun k hk => by simp at hk; omega)
  have hn := HH.out.touch tt (fun k hk => by simp at hk; omega)
  generalize w4.setCell ⟨w.heap.size + 1, 1, none⟩ (.int .i64 (kd : Int)) = w5 at *
  clear tt hA hB TT HH cc ff hkw
  have hC := tnumber_any hn Hb.out
  clear hn
  go_wp2_with fail
  refine hC.mono ?_
  rintro e w6 ⟨sd, hsd, rfl, t, h, q⟩
  have hA := (t.block _ (Kg.heap_lt hA5) (by simp; omega)).trans hA5
  have hB := (t.block _ (Kg.heap_lt hB5) (by simp; omega)).trans hB5
  have TT : Hid (Kg.Touch [T] w w6) := T5.out.trans t
  generalize hx : Im.stp (Im.number bs) (Im.pos x2) = x3 at *
  have X3 : Hid (Im.stp (Im.number bs) (Im.pos x2) = x3) := hx
  have Q3 : Hid (∀ z q, x3 = .ok (z, q) → sd = z) := q
  have HH : Hid (Txt w6 n0 T v bs (Im.pos x3)) := h
  have cc := (Kg.heap_cell hB 2).trans (show _ = some (.int .i64 0) from rfl)
  have ff := Kg.heap_frozen hB 2
  have hkw : IntKind.i64.wrap (sd : Int) = (sd : Int) := by rw [IntKind.wrap_i64]; omega
  clear hC t hA5 hB5 T5 hx q h
  go_upto_region 8 with fail
  have tt : Kg.Touch [w.heap.size + 1] w6 (w6.setCell ⟨w.heap.size + 1, 2, none⟩ (.int .i64 (sd : Int))) := Kg.Touch.setCell _ _ _ (by simp)
  have hB7 := (Kg.heap_set hB 2 (.int .i64 (sd : Int))).trans (show _ = some (.cells (obc (Im.rser last a : Nat) kd sd (.slice none 0 0) (.slice none 0 0)) 58 (0, 0)) from rfl)
  have hA7 := (tt.block _ (Kg.heap_lt hA) (by simp)).trans hA
  have T7 : Hid (Kg.Touch [T] w (w6.setCell ⟨w.heap.size + 1, 2, none⟩ (.int .i64 (sd : Int)))) := touch_new TT.out tt (fun k hk => by simp at hk; omega)
  have hn := HH.out.touch tt (fun k hk => by simp at hk; omega)
  generalize w6.setCell ⟨w.heap.size + 1, 2, none⟩ (.int .i64 (sd : Int)) = w7 at *
  clear tt hA hB TT HH cc ff hkw
  have hC := tints_any hn Hb.out 0 (by omega)
  clear hn
  go_wp2_with fail
  refine hC.mono ?_
  rintro e w8 ⟨u, ps, rfl, hps, ru, t, h, q⟩
  obtain ⟨au, cu, rfl⟩ := own_slI ru
  have hs7 := T7.out.size
  have hA := (t.block _ (Kg.heap_lt hA7) (by simp; omega)).trans hA7
  have hB := (t.block _ (Kg.heap_lt hB7) (by simp; omega)).trans hB7
  have TT : Hid (Kg.Touch [T] w w8) := T7.out.trans t
  have hru : ∀ y, (Value.slice au ps.length cu).ownBlock = some y → w.heap.size + 1 < y := fun y hy => by have := (ru.lt y hy).1; have := Kg.heap_lt hB7; omega
  generalize hx : Im.stp (Im.listP bs (Im.number bs)) (Im.pos x3) = x4 at *
  have X4 : Hid (Im.stp (Im.listP bs (Im.number bs)) (Im.pos x3) = x4) := hx
  have Q4 : Hid (∀ z q, x4 = .ok (z, q) → ps = z) := q
  have HH : Hid (Txt w8 n0 T v bs (Im.pos x4)) := h
  have RU : Hid (w8.ownsRow w.heap.size 3 1 (.slice au ps.length cu) ps.length (lessV 0 ps)) := Kg.row_base ru hs7
  have cc := (Kg.heap_cell hB 3).trans (show _ = some (.slice none 0 0) from rfl)
  have ff := Kg.heap_frozen hB 3
  clear hC t hA7 hB7 T7 hx q h ru
  go_upto_region 9 with fail
  have tt : Kg.Touch [w.heap.size + 1] w8 (w8.setCell ⟨w.heap.size + 1, 3, none⟩ (.slice au ps.length cu)) := Kg.Touch.setCell _ _ _ (by simp)
  have hB9 := (Kg.heap_set hB 3 (.slice au ps.length cu)).trans (show _ = some (.cells (obc (Im.rser last a : Nat) kd sd (.slice au ps.length cu) (.slice none 0 0)) 58 (0, 0)) from rfl)
  have hA9 := (tt.block _ (Kg.heap_lt hA) (by simp)).trans hA
  have T9 : Hid (Kg.Touch [T] w (w8.setCell ⟨w.heap.size + 1, 3, none⟩ (.slice au ps.length cu))) := touch_new TT.out tt (fun k hk => by simp at hk; omega)
  have RU9 : Hid ((w8.setCell ⟨w.heap.size + 1, 3, none⟩ (.slice au ps.length cu)).ownsRow w.heap.size 3 1 (.slice au ps.length cu) ps.length (lessV 0 ps)) := Kg.row_keep2 RU.out tt (fun k hk => by have := hru k hk; simp; omega)
  have hn := HH.out.touch tt (fun k hk => by simp at hk; omega)
  generalize w8.setCell ⟨w.heap.size + 1, 3, none⟩ (.slice au ps.length cu) = w9 at *
  clear tt hA hB TT HH cc ff RU
  have hC := tmany_any hn Hb.out
  clear hn
  go_wp2_with fail
  refine hC.mono ?_
  rintro e wA ⟨N, hN, rfl, ⟨t, h, q⟩, h0⟩
  have hAA := (t.block _ (Kg.heap_lt hA9) (by simp; omega)).trans hA9
  have hBA := (t.block _ (Kg.heap_lt hB9) (by simp; omega)).trans hB9
  have TA : Hid (Kg.Touch [T] w wA) := T9.out.trans t
  have RUA : Hid (wA.ownsRow w.heap.size 3 1 (.slice au ps.length cu) ps.length (lessV 0 ps)) := Kg.row_keep2 RU9.out t (fun k hk => by have := hru k hk; simp; omega)
  generalize hx : Im.stp (Im.many bs) (Im.pos x4) = xm at *
  have XM : Hid (Im.stp (Im.many bs) (Im.pos x4) = xm) := hx
  have QM : Hid ((∀ z q, xm = .ok (z, q) → N = z) ∧ ((∃ e, xm = .error e) → N = 0)) := ⟨q, h0⟩
  have HM : Hid (Txt wA n0 T v bs (Im.pos xm)) := h
  have HAB : Hid (wA.heap[w.heap.size]? = some (.cells zob 58 (0, 0)) ∧ wA.heap[w.heap.size + 1]? = some (.cells (obc (Im.rser last a : Nat) kd sd (.slice au ps.length cu) (.slice none 0 0)) 58 (0, 0))) := ⟨hAA, hBA⟩
  have hbn := hlo.2.2
  obtain ⟨i0, hi0, hj0, hj1, hj2⟩ := info_parts infoU6
  have HI : Hid (Tryz.prog.info? 26 = some i0 ∧ i0.zero = some (.int .u64 0) ∧ i0.size = 1 ∧ i0.bytes = 8) := ⟨hi0, hj0, hj1, hj2⟩
  clear hC t hA9 hB9 T9 hx q h h0 RU9 hAA hBA hi0 hj0 hj1 hj2
  go_wp2
  go_loopw [10] (fun v10 wr => ∃ (i : Nat) (rs : List Nat) (u : Value), v10 = .int .i64 (i : Int) ∧ i ≤ N ∧ Hid (rs.length = i) ∧ Hid (wr.heap[w.heap.size]? = some (.cells zob 58 (0, 0)) ∧ wr.heap[w.heap.size + 1]? = some (.cells (obc (Im.rser last a : Nat) kd sd (.slice au ps.length cu) u) 58 (0, 0))) ∧ Hid (wr.ownsRow (w.heap.size + 2) 26 1 u rs.length (rs.map fun n : Nat => Value.int .u64 (n : Int))) ∧ Hid (wr.ownsRow w.heap.size 3 1 (.slice au ps.length cu) ps.length (lessV 0 ps)) ∧ Hid (Kg.Touch [T] w wr) ∧ Hid (Txt wr n0 T v bs (Im.pos (Im.stp (Im.rep (Im.word bs) i) (Im.pos xm))) ∧ ∀ z q, Im.stp (Im.rep (Im.word bs) i) (Im.pos xm) = .ok (z, q) → rs = z)) (fun v10 _ => N - (intOf v10).toNat)
  case atStart =>
    refine ⟨0, [], .slice none 0 0, rfl, Nat.zero_le _, rfl, HAB, World.ownsRow_nil _ _ _ _, RUA, TA, ?_⟩
    have h9 := HM.out
    revert h9
    cases Im.pos xm with
    | error e => exact fun h9 => ⟨h9, fun z q hz => by cases hz⟩
    | ok p => exact fun h9 => ⟨h9, fun z q hz => by cases hz; rfl⟩
  case round =>
    obtain ⟨i, rs, u, rfl, hiN, hli, HAr, Hrs, HRU, HT, HS⟩ := hrel
    obtain ⟨ar, cr, hvr⟩ := own_slI Hrs.out
    subst hvr
    obtain ⟨kf, c2, hkf⟩ := HS.out.1.cell
    by_cases hi : i < N
    · have hii : (i : Int) < (N : Int) := by omega
      rcases hkf with ⟨rfl, pk⟩ | ⟨hk1, hk2, pk⟩
      · clear pk
        have HX : Hid (Txt wr.drew n0 T v bs (Im.pos (Im.stp (Im.rep (Im.word bs) i) (Im.pos xm)))) := HS.out.1.touch (Kg.Touch.drew [] wr) (fun k hk => by cases hk)
        have HQ : Hid (∀ z q, Im.stp (Im.rep (Im.word bs) i) (Im.pos xm) = .ok (z, q) → rs = z) := HS.out.2
        have c4 := (Kg.heap_cell HAr.out.2 4).trans (show _ = some (.slice ar rs.length cr) from rfl)
        have hBl := Kg.heap_lt HAr.out.2
        have c2 : wr.cell? ⟨T, 2, none⟩ = some (.int .i64 0) := c2
        clear HS
        go_wp2_with fail
        go_region_law (first
          | (go_simp; go_at_call 32; refine (tword_any HX.out Hb.out).mono ?_; rintro e w2 ⟨n, hn, rfl, t2, h2, q2⟩
             have hA2 := (t2.block _ (Kg.heap_lt HAr.out.1) (by simp; omega)).trans HAr.out.1
             have hB2 := (t2.block _ hBl (by simp; omega)).trans HAr.out.2
             have d4 := (Kg.heap_cell hB2 4).trans (show _ = some (.slice ar rs.length cr) from rfl)
             have d5 : (w2.alloc (.cells #[.int .u64 (n : Int)] 26)).cell? ⟨w.heap.size + 1, 4, none⟩ = some (.slice ar rs.length cr) := (World.cell?_of_block (w := w2) (Below.heap_alloc w2 _ _ (Kg.heap_lt hB2))).trans d4
             have T2 : Hid (Kg.Touch [T] w w2) := (HT.out.trans (Kg.Touch.drew _ _)).trans t2
             have Hrs2 : Hid (w2.ownsRow (w.heap.size + 2) 26 1 (.slice ar rs.length cr) rs.length (rs.map fun n : Nat => Value.int .u64 (n : Int))) := Kg.row_keep2 (Kg.row_keep2 Hrs.out (Kg.Touch.drew [] wr) (fun k hk => by simp)) t2 (fun k hk => by have := (Hrs.out.lt k hk).1; simp; omega)
             have HRU2 : Hid (w2.ownsRow w.heap.size 3 1 (.slice au ps.length cu) ps.length (lessV 0 ps)) := Kg.row_keep2 (Kg.row_keep2 HRU.out (Kg.Touch.drew [] wr) (fun k hk => by simp)) t2 (fun k hk => by have := hru k hk; simp; omega)
             have H2 : Hid (Txt w2 n0 T v bs (Im.pos (Im.stp (Im.word bs) (Im.pos (Im.stp (Im.rep (Im.word bs) i) (Im.pos xm)))))) := h2
             have Q2 : Hid (∀ z q, Im.stp (Im.word bs) (Im.pos (Im.stp (Im.rep (Im.word bs) i) (Im.pos xm))) = .ok (z, q) → n = z) := q2
             have HA2 : Hid (w2.heap[w.heap.size]? = some (.cells zob 58 (0, 0)) ∧ w2.heap[w.heap.size + 1]? = some (.cells (obc (Im.rser last a : Nat) kd sd (.slice au ps.length cu) (.slice ar rs.length cr)) 58 (0, 0))) := ⟨hA2, hB2⟩
             clear t2 h2 q2 hA2 hB2)
          | (refine step_append_own_at rfl (.tmp 53) (.tmp 56) 56 rfl (w.heap.size + 2) 26 i0 (.int .u64 0) 1 8 Tryz.underlying56 HI.out.1 HI.out.2.1 HI.out.2.2.1 HI.out.2.2.2 rfl (by decide) (.slice ar rs.length cr) rs.length (rs.map fun n : Nat => Value.int .u64 (n : Int)) rfl (Hrs2.out.alloc _) ⟨w2.heap.size, 0, none⟩ 1 1 [.int .u64 (n : Int)] rfl rfl (cell_one_new _ _ _) (by simp [Value.oneCell']) (by have := hli.out; simp [maxLen]; omega) (by have := hli.out; omega) (by have := Kg.heap_lt HA2.out.2; simp; omega) ?_
             intro v8 w8 ho hg hat
             obtain ⟨a8, c8, ev⟩ := own_slI ho
             subst ev
             have t8 := push_touch hg
             have hrw : ∀ y, y ∈ (Value.slice ar rs.length cr).ownBlock.toList → w.heap.size + 2 ≤ y := fun y hy => by rw [Option.mem_toList] at hy; exact (Hrs2.out.lt y hy).1
             have hB8 := (t8.block _ (Kg.heap_lt HA2.out.2) (fun hm => by have := hrw _ hm; omega)).trans HA2.out.2
             have hA8 := (t8.block _ (Kg.heap_lt HA2.out.1) (fun hm => by have := hrw _ hm; omega)).trans HA2.out.1
             have e4 := (Kg.heap_cell hB8 4).trans (show _ = some (.slice ar rs.length cr) from rfl)
             have f4 := Kg.heap_frozen hB8 4
             have tS : Kg.Touch [w.heap.size + 1] w8 (w8.setCell ⟨w.heap.size + 1, 4, none⟩ (.slice a8 (rs.length + 1) c8)) := Kg.Touch.setCell _ _ _ (by simp)
             have T8 : Kg.Touch [T] w w8 := touch_new T2.out t8 (fun k hk => .inr (by have := hrw k hk; omega))
             have FIN : Hid (∃ (rs2 : List Nat) (u2 : Value), rs2.length = i + 1 ∧ ((w8.setCell ⟨w.heap.size + 1, 4, none⟩ (.slice a8 (rs.length + 1) c8)).heap[w.heap.size]? = some (.cells zob 58 (0, 0)) ∧ (w8.setCell ⟨w.heap.size + 1, 4, none⟩ (.slice a8 (rs.length + 1) c8)).heap[w.heap.size + 1]? = some (.cells (obc (Im.rser last a : Nat) kd sd (.slice au ps.length cu) u2) 58 (0, 0))) ∧ (w8.setCell ⟨w.heap.size + 1, 4, none⟩ (.slice a8 (rs.length + 1) c8)).ownsRow (w.heap.size + 2) 26 1 u2 rs2.length (rs2.map fun n : Nat => Value.int .u64 (n : Int)) ∧ (w8.setCell ⟨w.heap.size + 1, 4, none⟩ (.slice a8 (rs.length + 1) c8)).ownsRow w.heap.size 3 1 (.slice au ps.length cu) ps.length (lessV 0 ps) ∧ Kg.Touch [T] w (w8.setCell ⟨w.heap.size + 1, 4, none⟩ (.slice a8 (rs.length + 1) c8)) ∧ Txt (w8.setCell ⟨w.heap.size + 1, 4, none⟩ (.slice a8 (rs.length + 1) c8)) n0 T v bs (Im.pos (Im.stp (Im.rep (Im.word bs) (i + 1)) (Im.pos xm))) ∧ ∀ z q, Im.stp (Im.rep (Im.word bs) (i + 1)) (Im.pos xm) = .ok (z, q) → rs2 = z) := by
               refine ⟨rs ++ [n], .slice a8 (rs.length + 1) c8, by simp [hli.out], ⟨(tS.block _ (Kg.heap_lt hA8) (by simp)).trans hA8, (Kg.heap_set hB8 4 _).trans rfl⟩, ?_, ?_, touch_new T8 tS (fun k hk => by simp at hk; omega), ?_, Im.val_snoc HQ.out Q2.out⟩
               · refine Kg.row_keep2 ?_ tS (fun k hk => by have := (ho.lt k hk).1; simp; omega)
                 simpa using ho
               · refine Kg.row_keep2 (Kg.row_keep2 HRU2.out t8 (fun k hk hm => ?_)) tS (fun k hk => by have := hru k hk; simp; omega)
                 rw [Option.mem_toList] at hm
                 exact row_apart HRU2.out Hrs2.out (by decide) hk hm
               · rw [Im.pos_snoc]
                 exact (H2.out.touch t8 (fun k hk => by have := hrw k hk; omega)).touch tS (fun k hk => by simp at hk; omega)
             clear ho hg hat t8 hrw hB8 hA8 tS T8))
        all_goals go_wp2
        all_goals go_roundw
        all_goals first
          | (obtain ⟨rs2, u2, y1, y2, y3, y4, y5, y6, y7⟩ := FIN.out
             exact ⟨i + 1, rs2, u2, by go_num, by omega, y1, y2, y3, y4, y5, y6, y7⟩)
          | (simp [intOf]; omega)
      · have hkz : ¬ (kf : Int) = 0 := by omega
        have hkb : ((kf : Int) == 0) = false := by simpa using hkz
        have HD : Hid (i = N ∨ ∃ e, Im.pos (Im.stp (Im.rep (Im.word bs) i) (Im.pos xm)) = .error e) := .inr (by obtain ⟨pl, hp⟩ := pk; exact ⟨_, hp⟩)
        have hN := QM.out
        have hD := HD.out
        have hSt := HS.out.1
        have hSv := HS.out.2
        rw [← XM.out] at hN hD hSt hSv
        obtain ⟨dn1, dn2⟩ := Im.stp_done hN.1 hN.2 hiN hD
        rw [← dn1] at hSt
        have Q5 : ∀ z q, Im.stp (Im.listP bs (Im.word bs)) (Im.pos x4) = .ok (z, q) → rs = z := fun z q hz => hSv z q (dn2 z q hz)
        have FIN : Hid (Txt wr n0 T v bs (Im.pos (Im.stp (Im.roP bs) st)) ∧ ∀ z q, Im.stp (Im.roP bs) st = .ok (z, q) → (a, kd, sd, ps, rs) = z) := by
          have q1 := Q1.out
          have q2 := Q2.out
          have q3 := Q3.out
          have q4 := Q4.out
          rw [← X4.out, ← X3.out, ← X2.out, ← X1.out] at hSt Q5
          rw [← X1.out] at q1
          rw [← X2.out, ← X1.out] at q2
          rw [← X3.out, ← X2.out, ← X1.out] at q3
          rw [← X4.out, ← X3.out, ← X2.out, ← X1.out] at q4
          refine ⟨?_, Im.pair_val q1 (Im.pair_val q2 (Im.pair_val q3 (Im.pair_val q4 Q5)))⟩
          show Txt wr n0 T v bs (Im.pos (Im.stp (Im.pairP _ (Im.pairP _ (Im.pairP _ (Im.pairP _ _)))) st))
          rw [Im.pair_pos, Im.pair_pos, Im.pair_pos, Im.pair_pos]
          exact hSt
        clear hN hD hSt hSv dn1 dn2 Q5 HS
        have hA := HAr.out.1
        have hB := HAr.out.2
        have y0 := (Kg.heap_cell hB 0).trans (show _ = some (.int .u64 ((Im.rser last a : Nat) : Int)) from rfl)
        have y1 := (Kg.heap_cell hB 1).trans (show _ = some (.int .i64 (kd : Int)) from rfl)
        have y2 := (Kg.heap_cell hB 2).trans (show _ = some (.int .i64 (sd : Int)) from rfl)
        have y3 := (Kg.heap_cell hB 3).trans (show _ = some (.slice au ps.length cu) from rfl)
        have y4 := (Kg.heap_cell hB 4).trans (show _ = some (.slice ar rs.length cr) from rfl)
        have z0 := (Kg.heap_cell hA 0).trans (show _ = some (.int .u64 0) from rfl)
        have z1 := (Kg.heap_cell hA 1).trans (show _ = some (.int .i64 0) from rfl)
        have z2 := (Kg.heap_cell hA 2).trans (show _ = some (.int .i64 0) from rfl)
        have z3 := (Kg.heap_cell hA 3).trans (show _ = some (.slice none 0 0) from rfl)
        have z4 := (Kg.heap_cell hA 4).trans (show _ = some (.slice none 0 0) from rfl)
        have f0 := Kg.heap_frozen hA 0
        have f1 := Kg.heap_frozen hA 1
        have f2 := Kg.heap_frozen hA 2
        have f3 := Kg.heap_frozen hA 3
        have f4 := Kg.heap_frozen hA 4
        generalize hrser : ((Im.rser last a : Nat) : Int) = sr at *
        have Hrser : Hid (((Im.rser last a : Nat) : Int) = sr) := hrser
        clear hrser
        go_wp2
        have s0 := Kg.heap_set hA 0 (.int .u64 sr)
        have s1 := Kg.heap_set s0 1 (.int .i64 (kd : Int))
        have s2 := Kg.heap_set s1 2 (.int .i64 (sd : Int))
        have s3 := Kg.heap_set s2 3 (.slice au ps.length cu)
        have s4 := Kg.heap_set s3 4 (.slice ar rs.length cr)
        have tS := touch5 wr w.heap.size (.int .u64 sr) (.int .i64 (kd : Int)) (.int .i64 (sd : Int)) (.slice au ps.length cu) (.slice ar rs.length cr)
        clear s0 s1 s2 s3 y0 y1 y2 y3 y4 z0 z1 z2 z3 z4 f0 f1 f2 f3 f4
        generalize (((((wr.setCell ⟨w.heap.size, 0, none⟩ (.int .u64 sr)).setCell ⟨w.heap.size, 1, none⟩ (.int .i64 (kd : Int))).setCell ⟨w.heap.size, 2, none⟩ (.int .i64 (sd : Int))).setCell ⟨w.heap.size, 3, none⟩ (.slice au ps.length cu)).setCell ⟨w.heap.size, 4, none⟩ (.slice ar rs.length cr)) = wS at *
        have s4 : wS.heap[w.heap.size]? = some (.cells (obc sr kd sd (.slice au ps.length cu) (.slice ar rs.length cr)) 58 (0, 0)) := s4
        have x0 := (Kg.heap_cell s4 0).trans (show _ = some (.int .u64 sr) from rfl)
        have x1 := (Kg.heap_cell s4 1).trans (show _ = some (.int .i64 (kd : Int)) from rfl)
        have x2 := (Kg.heap_cell s4 2).trans (show _ = some (.int .i64 (sd : Int)) from rfl)
        have x3 := (Kg.heap_cell s4 3).trans (show _ = some (.slice au ps.length cu) from rfl)
        have x4 := (Kg.heap_cell s4 4).trans (show _ = some (.slice ar rs.length cr) from rfl)
        refine bodyPost_ret (v := .tuple #[.agg (obc sr kd sd (.slice au ps.length cu) (.slice ar rs.length cr)), .bool (Im.over last a)]) (by simp [results, Tryz.results14, go_sem, x0, x1, x2, x3, x4]) rfl ⟨a, kd, sd, ps, rs, _, _, by rw [Hrser.out], hkd, hsd, hps, by have := hli.out; omega, ?_, ?_, touch_new HT.out tS (fun k hk => by simp at hk; omega), FIN.out.1.touch tS (fun k hk => by simp at hk; omega), FIN.out.2⟩
        · exact Kg.row_keep2 HRU.out tS (fun k hk => by have := hru k hk; simp; omega)
        · exact Kg.row_base (Kg.row_keep2 Hrs.out tS (fun k hk => by have := (Hrs.out.lt k hk).1; simp; omega)) (by omega)
    · have hii : ¬ (i : Int) < (N : Int) := by omega
      have HD : Hid (i = N ∨ ∃ e, Im.pos (Im.stp (Im.rep (Im.word bs) i) (Im.pos xm)) = .error e) := .inl (by omega)
      have hN := QM.out
      have hD := HD.out
      have hSt := HS.out.1
      have hSv := HS.out.2
      rw [← XM.out] at hN hD hSt hSv
      obtain ⟨dn1, dn2⟩ := Im.stp_done hN.1 hN.2 hiN hD
      rw [← dn1] at hSt
      have Q5 : ∀ z q, Im.stp (Im.listP bs (Im.word bs)) (Im.pos x4) = .ok (z, q) → rs = z := fun z q hz => hSv z q (dn2 z q hz)
      have FIN : Hid (Txt wr n0 T v bs (Im.pos (Im.stp (Im.roP bs) st)) ∧ ∀ z q, Im.stp (Im.roP bs) st = .ok (z, q) → (a, kd, sd, ps, rs) = z) := by
        have q1 := Q1.out
        have q2 := Q2.out
        have q3 := Q3.out
        have q4 := Q4.out
        rw [← X4.out, ← X3.out, ← X2.out, ← X1.out] at hSt Q5
        rw [← X1.out] at q1
        rw [← X2.out, ← X1.out] at q2
        rw [← X3.out, ← X2.out, ← X1.out] at q3
        rw [← X4.out, ← X3.out, ← X2.out, ← X1.out] at q4
        refine ⟨?_, Im.pair_val q1 (Im.pair_val q2 (Im.pair_val q3 (Im.pair_val q4 Q5)))⟩
        show Txt wr n0 T v bs (Im.pos (Im.stp (Im.pairP _ (Im.pairP _ (Im.pairP _ (Im.pairP _ _)))) st))
        rw [Im.pair_pos, Im.pair_pos, Im.pair_pos, Im.pair_pos]
        exact hSt
      clear hN hD hSt hSv dn1 dn2 Q5 HS
      have hA := HAr.out.1
      have hB := HAr.out.2
      have y0 := (Kg.heap_cell hB 0).trans (show _ = some (.int .u64 ((Im.rser last a : Nat) : Int)) from rfl)
      have y1 := (Kg.heap_cell hB 1).trans (show _ = some (.int .i64 (kd : Int)) from rfl)
      have y2 := (Kg.heap_cell hB 2).trans (show _ = some (.int .i64 (sd : Int)) from rfl)
      have y3 := (Kg.heap_cell hB 3).trans (show _ = some (.slice au ps.length cu) from rfl)
      have y4 := (Kg.heap_cell hB 4).trans (show _ = some (.slice ar rs.length cr) from rfl)
      have z0 := (Kg.heap_cell hA 0).trans (show _ = some (.int .u64 0) from rfl)
      have z1 := (Kg.heap_cell hA 1).trans (show _ = some (.int .i64 0) from rfl)
      have z2 := (Kg.heap_cell hA 2).trans (show _ = some (.int .i64 0) from rfl)
      have z3 := (Kg.heap_cell hA 3).trans (show _ = some (.slice none 0 0) from rfl)
      have z4 := (Kg.heap_cell hA 4).trans (show _ = some (.slice none 0 0) from rfl)
      have f0 := Kg.heap_frozen hA 0
      have f1 := Kg.heap_frozen hA 1
      have f2 := Kg.heap_frozen hA 2
      have f3 := Kg.heap_frozen hA 3
      have f4 := Kg.heap_frozen hA 4
      generalize hrser : ((Im.rser last a : Nat) : Int) = sr at *
      have Hrser : Hid (((Im.rser last a : Nat) : Int) = sr) := hrser
      clear hrser
      go_wp2
      have s0 := Kg.heap_set hA 0 (.int .u64 sr)
      have s1 := Kg.heap_set s0 1 (.int .i64 (kd : Int))
      have s2 := Kg.heap_set s1 2 (.int .i64 (sd : Int))
      have s3 := Kg.heap_set s2 3 (.slice au ps.length cu)
      have s4 := Kg.heap_set s3 4 (.slice ar rs.length cr)
      have tS := touch5 wr w.heap.size (.int .u64 sr) (.int .i64 (kd : Int)) (.int .i64 (sd : Int)) (.slice au ps.length cu) (.slice ar rs.length cr)
      clear s0 s1 s2 s3 y0 y1 y2 y3 y4 z0 z1 z2 z3 z4 f0 f1 f2 f3 f4
      generalize (((((wr.setCell ⟨w.heap.size, 0, none⟩ (.int .u64 sr)).setCell ⟨w.heap.size, 1, none⟩ (.int .i64 (kd : Int))).setCell ⟨w.heap.size, 2, none⟩ (.int .i64 (sd : Int))).setCell ⟨w.heap.size, 3, none⟩ (.slice au ps.length cu)).setCell ⟨w.heap.size, 4, none⟩ (.slice ar rs.length cr)) = wS at *
      have s4 : wS.heap[w.heap.size]? = some (.cells (obc sr kd sd (.slice au ps.length cu) (.slice ar rs.length cr)) 58 (0, 0)) := s4
      have x0 := (Kg.heap_cell s4 0).trans (show _ = some (.int .u64 sr) from rfl)
      have x1 := (Kg.heap_cell s4 1).trans (show _ = some (.int .i64 (kd : Int)) from rfl)
      have x2 := (Kg.heap_cell s4 2).trans (show _ = some (.int .i64 (sd : Int)) from rfl)
      have x3 := (Kg.heap_cell s4 3).trans (show _ = some (.slice au ps.length cu) from rfl)
      have x4 := (Kg.heap_cell s4 4).trans (show _ = some (.slice ar rs.length cr) from rfl)
      refine bodyPost_ret (v := .tuple #[.agg (obc sr kd sd (.slice au ps.length cu) (.slice ar rs.length cr)), .bool (Im.over last a)]) (by simp [results, Tryz.results14, go_sem, x0, x1, x2, x3, x4]) rfl ⟨a, kd, sd, ps, rs, _, _, by rw [Hrser.out], hkd, hsd, hps, by have := hli.out; omega, ?_, ?_, touch_new HT.out tS (fun k hk => by simp at hk; omega), FIN.out.1.touch tS (fun k hk => by simp at hk; omega), FIN.out.2⟩
      · exact Kg.row_keep2 HRU.out tS (fun k hk => by have := hru k hk; simp; omega)
      · exact Kg.row_base (Kg.row_keep2 Hrs.out tS (fun k hk => by have := (Hrs.out.lt k hk).1; simp; omega)) (by omega)

end Go.Proofs.YtblbiikfipcbcaaGreatDoor
