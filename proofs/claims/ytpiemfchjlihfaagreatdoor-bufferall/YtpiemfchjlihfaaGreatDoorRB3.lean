/-
  The document's buffers: lay.
-/
import Derived.Test.YtpiemfchjlihfaaGreatDoorRB2
import Derived.Test.YtpiemfchjlihfaaGreatDoorBF3
set_option linter.unusedVariables false
set_option maxRecDepth 20000
namespace Go.Proofs.YtpiemfchjlihfaaGreatDoor
open Go.RowKit Go.Shelf

/-- The document's arena and its buffers. -/
structure Rz (w : World) (vb ga gr n rb : Nat) (g : Nat → Nat) (c : Cfg) (x : Tps) (ws : Nat → Int) (sz : Int) (at_ rs : Nat → Int) : Prop where
  bu : Rbs w vb ga gr n sz at_ rs
  ar : Ra w rb g c x false ws
  ap : ∀ q, q ∈ [vb, ga, gr] → q ∉ rft rb g

abbrev rzf (vb ga gr rb : Nat) (g : Nat → Nat) : List Nat := [vb, ga, gr] ++ rft rb g

section
variable {w w' : World} {vb ga gr n rb : Nat} {g : Nat → Nat} {c : Cfg} {x : Tps} {ws : Nat → Int} {sz : Int} {at_ rs : Nat → Int}

theorem Rz.below (h : Rz w vb ga gr n rb g c x ws sz at_ rs) (l : Below w.heap.size w w') : Rz w' vb ga gr n rb g c x ws sz at_ rs := ⟨h.bu.below l, h.ar.below l, h.ap⟩
/-- The arena alone is written. -/
theorem Rz.word {x' : Tps} {ws' : Nat → Int} (h : Rz w vb ga gr n rb g c x ws sz at_ rs) (t : Touch (rft rb g) w w') (hA : Ra w' rb g c x' false ws') : Rz w' vb ga gr n rb g c x' ws' sz at_ rs := ⟨h.bu.touch t h.ap, hA, h.ap⟩
theorem touch_rz (t : Touch (rft rb g) w w') : Touch (rzf vb ga gr rb g) w w' := (Touch.refl _ _).then t (fun z hz => .inl (List.mem_append.2 (.inr hz)))
theorem Rz.setA (h : Rz w vb ga gr n rb g c x ws sz at_ rs) (t : Nat) (v : Int) : Rz (w.setCell ⟨ga, t, none⟩ (.int .i64 v)) vb ga gr n rb g c x ws sz (upd at_ t v) rs ∧ Touch (rzf vb ga gr rb g) w (w.setCell ⟨ga, t, none⟩ (.int .i64 v)) := by
  have t1 : Touch [ga] w (w.setCell ⟨ga, t, none⟩ (.int .i64 v)) := Touch.setCell _ _ _ (by simp)
  refine ⟨⟨h.bu.setA t v, h.ar.touch t1 (fun q hq hm => ?_), h.ap⟩, Touch.setCell _ _ _ (by simp [rzf])⟩
  simp only [List.mem_cons, List.not_mem_nil, or_false] at hm
  subst hm
  exact h.ap q (by simp) hq
theorem Rz.setR (h : Rz w vb ga gr n rb g c x ws sz at_ rs) (t : Nat) (v : Int) : Rz (w.setCell ⟨gr, t, none⟩ (.int .i64 v)) vb ga gr n rb g c x ws sz at_ (upd rs t v) ∧ Touch (rzf vb ga gr rb g) w (w.setCell ⟨gr, t, none⟩ (.int .i64 v)) := by
  have t1 : Touch [gr] w (w.setCell ⟨gr, t, none⟩ (.int .i64 v)) := Touch.setCell _ _ _ (by simp)
  refine ⟨⟨h.bu.setR t v, h.ar.touch t1 (fun q hq hm => ?_), h.ap⟩, Touch.setCell _ _ _ (by simp [rzf])⟩
  simp only [List.mem_cons, List.not_mem_nil, or_false] at hm
  subst hm
  exact h.ap q (by simp) hq

/-- A word below the array's end is set. -/
theorem Rz.setW (h : Rz w vb ga gr n rb g c x ws sz at_ rs) (i : Int) (j : Nat) (hj : i = j) (v : Int) (h0 : 0 < j) (h1 : (j : Int) < c.words) :
    Calls Tryz.prog 66 #[.pointer (some ⟨rb, 0, none⟩), .int .i64 i, .int .u64 v] w fun e w' => e = .returned (.bool true) ∧ Rz w' vb ga gr n rb g c x (upd ws j v) sz at_ rs ∧ Touch (rzf vb ga gr rb g) w w' := by
  subst hj
  exact (rsetWord_yes rb g c x false ws j v h0 h1 w h.ar).mono fun e w' ⟨e1, e2, e3⟩ => ⟨e1, h.word e3 e2, touch_rz e3⟩

/-- A block of the call's own isn't theirs. -/
theorem Rz.lts (h : Rz w vb ga gr n rb g c x ws sz at_ rs) (q : Nat) (hq : q ∈ rzf vb ga gr rb g) : q < w.heap.size := by
  rcases List.mem_append.1 hq with h1 | h1
  · exact h.bu.lts q h1
  · exact h.ar.lt q h1

end

set_option maxHeartbeats 8000000 in
theorem r13lay_any {w : World} {vb ga gr N rb : Nat} {g : Nat → Nat} {c : Cfg} {x : Tps} {ws : Nat → Int} {sz : Int} {at_ rs : Nat → Int} (h : Rz w vb ga gr N rb g c x ws sz at_ rs) (t : Nat) (ht : t < N)
    (s k a y : Int) (p r : Nat) (hh : Bool) (m : Int) (hp : p ≤ 4095) (hr : r ≤ 65535) (q R n : Nat) (hq : at_ t = q) (hR : rs t = R) (hn : n = 2 + p + r) (hle : n ≤ R) (hq0 : 0 < q) (hR1 : R ≤ 70000) (hqR : ((q + R : Nat) : Int) ≤ c.words) :
    Calls Tryz.prog 60 #[.pointer (some ⟨vb, 0, none⟩), .pointer (some ⟨rb, 0, none⟩), .int .i64 t, hv s k p r a y hh, .int .u64 m] w fun e w' => e = .returned (.int .i64 q) ∧ Rz w' vb ga gr N rb g c x (fil13 (putw ws q n m s) ((q + n : Nat) : Int) ((R - n : Nat) : Int)) sz (upd at_ t ((q + n : Nat) : Int)) (upd rs t ((R - n : Nat) : Int)) ∧ Touch (rzf vb ga gr rb g) w w' := by
  have hwds : c.words ≤ 400000 := by have := h.ar.ok.e1; have := h.ar.ok.s1; have := h.ar.ok.t1; unfold Cfg.words; omega
  have hqb : q ≤ 400000 := by omega
  have H0 : Hid (Rz w vb ga gr N rb g c x ws sz at_ rs) := h
  have hti : (t : Int) < (N : Int) := by omega
  have Hq : Hid (at_ t = q ∧ rs t = R) := ⟨hq, hR⟩
  have Hw : Hid (((q + R : Nat) : Int) ≤ c.words) := hqR
  have Hn : Hid (n = 2 + p + r) := hn
  have hn2 : 2 ≤ n := by omega
  clear h hq hR hqR hn
  go_enter Tryz.func60, Tryz.ntmps60
  go_upto_region 1 with fail
  have b0 : Below w.heap.size w (w.alloc (.cells (hcells s k p r a y hh) 46)) := Below.alloc (Below.refl _ _) (Nat.le_refl _) _
  have x0 := heap_alloc_new w (.cells (hcells s k p r a y hh) 46)
  generalize w.alloc (.cells (hcells s k p r a y hh) 46) = v at *
  have HX : Hid (v.heap[w.heap.size]? = some (.cells (hcells s k p r a y hh) 46 (0, 0))) := x0
  have HR : Hid (Rz v vb ga gr N rb g c x ws sz at_ rs) := H0.out.below b0
  have HB : Hid (Below w.heap.size w v) := b0
  clear x0 b0
  have k1 := HR.out.bu.c1
  have k2 : v.cell? ⟨ga, t, none⟩ = some (.int .i64 q) := by rw [← Hq.out.1]; exact HR.out.bu.ra.cell ht
  have y0 : v.cell? ⟨w.heap.size, 0, none⟩ = some (.int .u64 s) := cell_of_row _ _ 0 _ _ _ HX.out
  have y1 : v.cell? ⟨w.heap.size, 1, none⟩ = some (.int .i64 k) := cell_of_row _ _ 1 _ _ _ HX.out
  have y2 : v.cell? ⟨w.heap.size, 2, none⟩ = some (.int .i64 p) := cell_of_row _ _ 2 _ _ _ HX.out
  have y3 : v.cell? ⟨w.heap.size, 3, none⟩ = some (.int .i64 r) := cell_of_row _ _ 3 _ _ _ HX.out
  have y4 : v.cell? ⟨w.heap.size, 4, none⟩ = some (.int .i64 a) := cell_of_row _ _ 4 _ _ _ HX.out
  have y5 : v.cell? ⟨w.heap.size, 5, none⟩ = some (.int .i64 y) := cell_of_row _ _ 5 _ _ _ HX.out
  have y6 : v.cell? ⟨w.heap.size, 6, none⟩ = some (.bool hh) := cell_of_row _ _ 6 _ _ _ HX.out
  have qs := rsizeh_any s k p r a y hh (by omega) (by omega) (by omega) (by omega) v
  rw [show (2 : Int) + p + r = (n : Int) by have := Hn.out; omega] at qs
  go_wp2_with fail
  refine qs.mono ?_
  rintro e w1 ⟨rfl, hw1⟩
  have b1 : Below v.heap.size v w1 := by rw [hw1]; exact Below.alloc (Below.refl _ _) (Nat.le_refl _) _
  have HR1 : Hid (Rz w1 vb ga gr N rb g c x (zer ws q 0) sz at_ rs) := by rw [zer_zero]; exact HR.out.below b1
  have HB1 : Hid (Touch (rzf vb ga gr rb g) w w1) := Touch.of_below (HB.out.trans (b1.mono HB.out.size)) _
  have HX1 : Hid (w1.heap[w.heap.size]? = some (.cells (hcells s k p r a y hh) 46 (0, 0))) := (b1.block _ (Array.getElem?_eq_some_iff.1 HX.out).1).trans HX.out
  have Hoff : Hid (w.heap.size ∉ rzf vb ga gr rb g) := fun hm => Nat.lt_irrefl _ (H0.out.lts _ hm)
  clear qs hw1 b1 k1 k2 y0 y1 y2 y3 y4 y5 y6 HX HR HB
  go_wp2
  go_loopw [13] (fun iv wr => ∃ i : Nat, iv = .int .i64 i ∧ i ≤ n ∧ Hid (Rz wr vb ga gr N rb g c x (zer ws q i) sz at_ rs) ∧ Hid (Touch (rzf vb ga gr rb g) w wr) ∧ Hid (wr.heap[w.heap.size]? = some (.cells (hcells s k p r a y hh) 46 (0, 0)))) (fun iv _ => n - (intOf iv).toNat)
  case atStart => exact ⟨0, rfl, by omega, HR1, HB1, HX1⟩
  case round =>
    obtain ⟨i, rfl, hi, HRi, HTi, HXi⟩ := hrel
    clear HR1 HB1 HX1
    by_cases hin : i < n
    · have hii : (i : Int) < (n : Int) := by omega
      have q1 := HRi.out.setW ((q : Int) + i) (q + i) (by omega) 0 (by omega) (by have := Hw.out; omega)
      rw [zer_step] at q1
      go_wp2_with fail
      refine q1.mono ?_
      rintro e w2 ⟨rfl, r2, t2⟩
      have HR2 : Hid (Rz w2 vb ga gr N rb g c x (zer ws q (i + 1)) sz at_ rs) := r2
      have HT2 : Hid (Touch (rzf vb ga gr rb g) w w2) := HTi.out.trans t2
      have HX2 : Hid (w2.heap[w.heap.size]? = some (.cells (hcells s k p r a y hh) 46 (0, 0))) := (t2.block _ (Array.getElem?_eq_some_iff.1 HXi.out).1 Hoff.out).trans HXi.out
      clear q1 r2 t2
      go_wp2
      go_roundw
      case rel => exact ⟨i + 1, by go_num, by omega, HR2, HT2, HX2⟩
      case measure => simp [intOf]; omega
    · have hii : ¬ (i : Int) < (n : Int) := by omega
      have HRn : Hid (Rz wr vb ga gr N rb g c x (zer ws q n) sz at_ rs) := by
        have e : i = n := by omega
        rw [← e]
        exact HRi.out
      have hw := Hw.out
      have q1 := HRn.out.setW (q : Int) q rfl m hq0 (by omega)
      clear HRi
      go_wp2_with fail
      refine q1.mono ?_
      rintro e w2 ⟨rfl, r2, t2⟩
      have HX2 : Hid (w2.heap[w.heap.size]? = some (.cells (hcells s k p r a y hh) 46 (0, 0))) := (t2.block _ (Array.getElem?_eq_some_iff.1 HXi.out).1 Hoff.out).trans HXi.out
      have HT2 : Hid (Touch (rzf vb ga gr rb g) w w2) := HTi.out.trans t2
      have y0 : w2.cell? ⟨w.heap.size, 0, none⟩ = some (.int .u64 s) := cell_of_row _ _ 0 _ _ _ HX2.out
      have q2 := r2.setW ((q : Int) + 1) (q + 1) (by omega) s (by omega) (by omega)
      clear q1 r2 t2 HRn HTi HXi
      go_wp2_with fail
      refine q2.mono ?_
      rintro e w3 ⟨rfl, r3, t3⟩
      have HR3 : Hid (Rz w3 vb ga gr N rb g c x (putw ws q n m s) sz at_ rs) := r3
      have HT3 : Hid (Touch (rzf vb ga gr rb g) w w3) := HT2.out.trans t3
      clear q2 r3 t3 y0 HX2 HT2
      have k1 := HR3.out.bu.c1
      have k2 : w3.cell? ⟨ga, t, none⟩ = some (.int .i64 q) := by rw [← Hq.out.1]; exact HR3.out.bu.ra.cell ht
      have g2 := HR3.out.bu.ra.frozen t
      go_upto_region 10 with fail
      obtain ⟨r4, t4⟩ := HR3.out.setA t ((q : Int) + n)
      have HR4 : Hid (Rz (w3.setCell ⟨ga, t, none⟩ (.int .i64 ((q : Int) + n))) vb ga gr N rb g c x (putw ws q n m s) sz (upd at_ t ((q : Int) + n)) rs) := r4
      have HT4 : Hid (Touch (rzf vb ga gr rb g) w (w3.setCell ⟨ga, t, none⟩ (.int .i64 ((q : Int) + n)))) := HT3.out.trans t4
      clear r4 t4 k1 k2 g2 HR3 HT3
      generalize w3.setCell ⟨ga, t, none⟩ (.int .i64 ((q : Int) + n)) = w4 at *
      have k1 := HR4.out.bu.c2
      have k2 : w4.cell? ⟨gr, t, none⟩ = some (.int .i64 R) := by rw [← Hq.out.2]; exact HR4.out.bu.rr.cell ht
      have g2 := HR4.out.bu.rr.frozen t
      refine quiet_tail 15 mixed (by kernel_rfl) ?_
      simp only [List.take_succ_cons, List.take_zero, List.drop_succ_cons, List.drop_zero]
      repeat (go_big_quiet_step (fail))
      refine wpQuiet_nil ?_
      go_upto_region 11 with fail
      obtain ⟨r5, t5⟩ := HR4.out.setR t ((R : Int) - n)
      have HR5 : Hid (Rz (w4.setCell ⟨gr, t, none⟩ (.int .i64 ((R : Int) - n))).drew vb ga gr N rb g c x (putw ws q n m s) sz (upd at_ t ((q : Int) + n)) (upd rs t ((R : Int) - n))) := r5.below (below_drewN (Below.refl _ _) 1)
      have HT5 : Hid (Touch (rzf vb ga gr rb g) w (w4.setCell ⟨gr, t, none⟩ (.int .i64 ((R : Int) - n))).drew) := (HT4.out.trans t5).trans (Touch.drewN _ _ 1)
      clear r5 t5 k1 k2 g2 HR4 HT4
      generalize (w4.setCell ⟨gr, t, none⟩ (.int .i64 ((R : Int) - n))).drew = w5 at *
      have e1 : ((q + n : Nat) : Int) = (q : Int) + n := by omega
      have e2 : ((R - n : Nat) : Int) = (R : Int) - n := by omega
      have k1 := HR5.out.bu.c2
      have k2 : w5.cell? ⟨gr, t, none⟩ = some (.int .i64 ((R : Int) - n)) := by rw [HR5.out.bu.rr.cell ht]; simp [upd]
      by_cases hz : n < R
      · have hzi : (0 : Int) < (R : Int) - n := by omega
        have k3 := HR5.out.bu.c1
        have k4 : w5.cell? ⟨ga, t, none⟩ = some (.int .i64 ((q : Int) + n)) := by rw [HR5.out.bu.ra.cell ht]; simp [upd]
        have q1 := rfiller_any ((R : Int) - n) w5
        go_wp2_with fail
        refine q1.mono ?_
        rintro e w6 ⟨rfl, hw6⟩
        subst hw6
        have q2 := HR5.out.setW ((q : Int) + n) (q + n) (by omega) (tg 3 ((R : Int) - n)) (by omega) (by omega)
        clear q1
        go_wp2_with fail
        refine q2.mono ?_
        rintro e w7 ⟨rfl, r7, t7⟩
        have HF : Hid (Rz w7 vb ga gr N rb g c x (fil13 (putw ws q n m s) ((q + n : Nat) : Int) ((R - n : Nat) : Int)) sz (upd at_ t ((q + n : Nat) : Int)) (upd rs t ((R - n : Nat) : Int))) := by
          unfold fil13
          rw [if_pos (by omega), Int.toNat_natCast, e1, e2]
          exact r7
        have HTF : Hid (Touch (rzf vb ga gr rb g) w w7) := HT5.out.trans t7
        clear q2 r7 t7 k1 k2 k3 k4 e1 e2
        go_wp2
        go_ret
        exact ⟨rfl, HF.out, HTF.out⟩
      · have hzi : ¬ (0 : Int) < (R : Int) - n := by omega
        have HF : Hid (Rz w5 vb ga gr N rb g c x (fil13 (putw ws q n m s) ((q + n : Nat) : Int) ((R - n : Nat) : Int)) sz (upd at_ t ((q + n : Nat) : Int)) (upd rs t ((R - n : Nat) : Int))) := by
          unfold fil13
          rw [if_neg (by omega), e1, e2]
          exact HR5.out
        clear e1 e2
        go_wp2
        go_ret
        exact ⟨rfl, HF.out, HT5.out⟩

end Go.Proofs.YtpiemfchjlihfaaGreatDoor
