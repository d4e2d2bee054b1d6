/-
  The document's arena: the head of an object that stands.
-/
import Derived.Test.YtbdkcelggffneaaGreatDoorB10
set_option linter.unusedVariables false
set_option maxRecDepth 20000
namespace Go.Proofs.YtbdkcelggffneaaGreatDoor
open Go.RowKit Go.Shelf

section
variable (b : Nat) (g : Nat → Nat) (c : Cfg) (x : Tps) (sw : Bool) (ws : Nat → Int)

set_option maxHeartbeats 2000000 in
theorem rhead_short (a : Int) (hS0 : spc c a ≠ 0) (ht : a < x.top (spc c a)) (hs : IsHead (wat c ws a)) (hz : x.top (spc c a) - a < osz c ws a) (hw : Wd (wat c ws a)) (w : World) (h : Ra w b g c x sw ws) :
    Calls Tryz.prog 30 #[.pointer (some ⟨b, 0, none⟩), .int .i64 a] w fun e w' => e = .returned (.tuple #[hv 0 0 0 0 0 0 false, .bool false]) ∧ Below w.heap.size w w' := by
  have hX := Box.new w 31 (.int .u64 0) (.int .i64 0) (.int .i64 0) (.int .i64 0) (.int .i64 0) (.int .i64 0) (.bool false)
  have hb := Below.alloc (Below.refl w.heap.size w) (Nat.le_refl _) (.cells (hcells 0 0 0 0 0 0 false) 31)
  have HS : Hid (∀ w1, Below w.heap.size w w1 → Calls Tryz.prog 27 #[.pointer (some ⟨b, 0, none⟩), .int .i64 a] w1 fun e w' => e = .returned (.int .i64 (spc c a)) ∧ Below w1.heap.size w1 w') := fun w1 l => rspaceof_any b g c x sw ws a w1 (h.below l)
  have HT : Hid (∀ w1, Below w.heap.size w w1 → Calls Tryz.prog 76 #[.pointer (some ⟨b, 0, none⟩), .int .i64 (spc c a)] w1 fun e w' => e = .returned (.int .i64 (x.top (spc c a))) ∧ Below w1.heap.size w1 w') := fun w1 l => rtop_any b g c x sw ws _ w1 (h.below l)
  have HW : Hid (∀ w1, Below w.heap.size w w1 → Calls Tryz.prog 19 #[.pointer (some ⟨b, 0, none⟩), .int .i64 a] w1 fun e w' => e = .returned (.int .u64 (wat c ws a)) ∧ Below w1.heap.size w1 w') := fun w1 l => rword_any b g c x sw ws a w1 (h.below l)
  have HU : Hid (∀ w1, Calls Tryz.prog 79 #[.int .u64 (wat c ws a)] w1 fun e w' => e = .returned (.tuple #[hv 0 (kdOf (wat c ws a)) (ptOf (wat c ws a)) (rwOf (wat c ws a)) (agOf (wat c ws a)) (stOf (wat c ws a)) (hdOf (wat c ws a)), .bool true]) ∧ Below w1.heap.size w1 w') := fun w1 => runpack_yes _ hw hs w1
  have HW1 : Hid (∀ w1, Below w.heap.size w w1 → Calls Tryz.prog 19 #[.pointer (some ⟨b, 0, none⟩), .int .i64 (a + 1)] w1 fun e w' => e = .returned (.int .u64 (wat c ws (a + 1))) ∧ Below w1.heap.size w1 w') := fun w1 l => rword_any b g c x sw ws (a + 1) w1 (h.below l)
  have hxlt := hX.lt
  have hpt := pt_in (wat c ws a)
  have hrw := rw_in (wat c ws a)
  have hTb : x.top (spc c a) ≤ 400000 := by
    have := h.ok.e1; have := h.ok.s1; have := h.ok.t1
    obtain ⟨a1, a2, a3, a4, a5, a6, a7, a8⟩ := h.tk
    unfold Tps.top
    repeat' split
    all_goals omega
  have ha1 : 1 ≤ a := by
    have := (spc_in h.ok a).2.2.1 hS0
    have := (spc_in h.ok a).1
    have hfp : ∀ s : Int, s ≠ 0 → 0 ≤ s → s ≤ 4 → 1 ≤ fst c s := fun s h1 h2 h3 => by
      have := h.ok.e0; have := h.ok.s0
      obtain rfl | rfl | rfl | rfl : s = 1 ∨ s = 2 ∨ s = 3 ∨ s = 4 := by omega
      all_goals
        simp [fst]
        try omega
    have := hfp (spc c a) hS0 (spc_in h.ok a).1 (spc_in h.ok a).2.1
    omega
  unfold osz at hz
  clear h hs hw
  generalize x.top (spc c a) = T at *
  generalize spc c a = S at *
  generalize wat c ws (a + 1) = m1 at *
  generalize kdOf (wat c ws a) = K at *
  generalize ptOf (wat c ws a) = P at *
  generalize rwOf (wat c ws a) = R at *
  generalize agOf (wat c ws a) = A at *
  generalize stOf (wat c ws a) = U at *
  generalize hdOf (wat c ws a) = H at *
  generalize wat c ws a = m at *
  obtain ⟨p0, p1⟩ := hpt
  obtain ⟨r0, r1⟩ := hrw
  have hz' : (S == 0) = false := by simp [hS0]
  have ht' : decide (T ≤ a) = false := decide_eq_false (by omega)
  go_enter Tryz.func30, Tryz.ntmps30
  go_upto_region 1 with fail
  generalize (w.alloc (.cells (hcells 0 0 0 0 0 0 false) 31)) = w0 at *
  go_wp2_with fail
  refine (HS.out w0 hb).mono ?_
  rintro e w1 ⟨rfl, l1⟩
  have b1 := hb.trans (l1.mono hb.size)
  have hX1 := hX.keep l1 hxlt
  have hx1 := hX1.lt
  clear hb HS hX l1 hxlt
  go_wp2_with fail
  refine (HT.out w1 b1).mono ?_
  rintro e w2 ⟨rfl, l2⟩
  have b2 := b1.trans (l2.mono b1.size)
  have hX2 := hX1.keep l2 hx1
  have hx2 := hX2.lt
  clear l2 b1 hX1 hx1
  go_wp2_with fail
  refine (HW.out w2 b2).mono ?_
  rintro e w3 ⟨rfl, l3⟩
  have b3 := b2.trans (l3.mono b2.size)
  have hX3 := hX2.keep l3 hx2
  have hx3 := hX3.lt
  clear HW l3 b2 hX2 hx2
  go_wp2_with fail
  refine (HU.out w3).mono ?_
  rintro e w4 ⟨rfl, l4⟩
  have b4 := b3.trans (l4.mono b3.size)
  have hX4 := hX3.keep l4 hx3
  have hx4 := hX4.lt
  clear HU l4 b3 hX3 hx3
  go_upto_region 5 with fail
  have hX5 := hX4.keep (Below.alloc (Below.refl _ _) (Nat.le_refl _) (.cells (hcells 0 K P R A U H) 31)) hx4
  have hY5 := Box.new w4 31 (.int .u64 0) (.int .i64 K) (.int .i64 P) (.int .i64 R) (.int .i64 A) (.int .i64 U) (.bool H)
  have b5 := Below.alloc b4 b4.size (.cells (hcells 0 K P R A U H) 31)
  have hne : w.heap.size ≠ w4.heap.size := by omega
  have hBw : w.heap.size ≤ w4.heap.size := b4.size
  clear hX4 b4 hx4
  generalize (w4.alloc (.cells (hcells 0 K P R A U H) 31)) = w5 at *
  have hx5 := hX5.lt
  have hy5 := hY5.lt
  have hY5' := hY5
  obtain ⟨y0, y1, y2, y3, y4, y5, y6, -, -, -, -, -, -, -⟩ := hY5
  generalize w4.heap.size = B7 at *
  go_wp2_with fail
  clear y0 y1 y2 y3 y4 y5 y6
  refine (rsizeh_any 0 K P R A U H p0 p1 r0 r1 w5).mono ?_
  rintro e w6 ⟨rfl, hw6⟩
  have l6 : Below w5.heap.size w5 w6 := by rw [hw6]; exact Below.alloc (Below.refl _ _) (Nat.le_refl _) _
  clear hw6
  have b6 := b5.trans (l6.mono b5.size)
  have hX6 := hX5.keep l6 hx5
  have hY6 := hY5'.keep l6 hy5
  have hx6 := hX6.lt
  have hy6 := hY6.lt
  clear l6 b5 hX5 hY5' hx5 hy5
  go_wp2_with fail
  refine (HT.out w6 b6).mono ?_
  rintro e w7 ⟨rfl, l7⟩
  have b7 := b6.trans (l7.mono b6.size)
  have hX7 := hX6.keep l7 hx6
  have hY7 := hY6.keep l7 hy6
  have hx7 := hX7.lt
  have hy7 := hY7.lt
  clear l7 b6 hX6 hY6 hx6 hy6 HT
  have hgt : T < a + (2 + P + R) := by omega
  clear HW1 hY7 hz
  obtain ⟨x0, x1, x2, x3, x4, x5, x6, f0, f1, f2, f3, f4, f5, f6⟩ := hX7
  go_wp2
  refine bodyPost_ret (by simp [results, Tryz.results30, go_sem, x0, x1, x2, x3, x4, x5, x6]; try rfl) rfl ?_
  refine ⟨rfl, ?_⟩
  go_grown

set_option maxHeartbeats 2000000 in
theorem rhead_yes (a : Int) (hS0 : spc c a ≠ 0) (ht : a < x.top (spc c a)) (hs : IsHead (wat c ws a)) (hz : osz c ws a ≤ x.top (spc c a) - a) (hw : Wd (wat c ws a)) (w : World) (h : Ra w b g c x sw ws) :
    Calls Tryz.prog 30 #[.pointer (some ⟨b, 0, none⟩), .int .i64 a] w fun e w' => e = .returned (.tuple #[hdv c ws a, .bool true]) ∧ Below w.heap.size w w' := by
  unfold hdv
  have hX := Box.new w 31 (.int .u64 0) (.int .i64 0) (.int .i64 0) (.int .i64 0) (.int .i64 0) (.int .i64 0) (.bool false)
  have hb := Below.alloc (Below.refl w.heap.size w) (Nat.le_refl _) (.cells (hcells 0 0 0 0 0 0 false) 31)
  have HS : Hid (∀ w1, Below w.heap.size w w1 → Calls Tryz.prog 27 #[.pointer (some ⟨b, 0, none⟩), .int .i64 a] w1 fun e w' => e = .returned (.int .i64 (spc c a)) ∧ Below w1.heap.size w1 w') := fun w1 l => rspaceof_any b g c x sw ws a w1 (h.below l)
  have HT : Hid (∀ w1, Below w.heap.size w w1 → Calls Tryz.prog 76 #[.pointer (some ⟨b, 0, none⟩), .int .i64 (spc c a)] w1 fun e w' => e = .returned (.int .i64 (x.top (spc c a))) ∧ Below w1.heap.size w1 w') := fun w1 l => rtop_any b g c x sw ws _ w1 (h.below l)
  have HW : Hid (∀ w1, Below w.heap.size w w1 → Calls Tryz.prog 19 #[.pointer (some ⟨b, 0, none⟩), .int .i64 a] w1 fun e w' => e = .returned (.int .u64 (wat c ws a)) ∧ Below w1.heap.size w1 w') := fun w1 l => rword_any b g c x sw ws a w1 (h.below l)
  have HU : Hid (∀ w1, Calls Tryz.prog 79 #[.int .u64 (wat c ws a)] w1 fun e w' => e = .returned (.tuple #[hv 0 (kdOf (wat c ws a)) (ptOf (wat c ws a)) (rwOf (wat c ws a)) (agOf (wat c ws a)) (stOf (wat c ws a)) (hdOf (wat c ws a)), .bool true]) ∧ Below w1.heap.size w1 w') := fun w1 => runpack_yes _ hw hs w1
  have HW1 : Hid (∀ w1, Below w.heap.size w w1 → Calls Tryz.prog 19 #[.pointer (some ⟨b, 0, none⟩), .int .i64 (a + 1)] w1 fun e w' => e = .returned (.int .u64 (wat c ws (a + 1))) ∧ Below w1.heap.size w1 w') := fun w1 l => rword_any b g c x sw ws (a + 1) w1 (h.below l)
  have hxlt := hX.lt
  have hpt := pt_in (wat c ws a)
  have hrw := rw_in (wat c ws a)
  have hTb : x.top (spc c a) ≤ 400000 := by
    have := h.ok.e1; have := h.ok.s1; have := h.ok.t1
    obtain ⟨a1, a2, a3, a4, a5, a6, a7, a8⟩ := h.tk
    unfold Tps.top
    repeat' split
    all_goals omega
  have ha1 : 1 ≤ a := by
    have := (spc_in h.ok a).2.2.1 hS0
    have := (spc_in h.ok a).1
    have hfp : ∀ s : Int, s ≠ 0 → 0 ≤ s → s ≤ 4 → 1 ≤ fst c s := fun s h1 h2 h3 => by
      have := h.ok.e0; have := h.ok.s0
      obtain rfl | rfl | rfl | rfl : s = 1 ∨ s = 2 ∨ s = 3 ∨ s = 4 := by omega
      all_goals
        simp [fst]
        try omega
    have := hfp (spc c a) hS0 (spc_in h.ok a).1 (spc_in h.ok a).2.1
    omega
  unfold osz at hz
  clear h hs hw
  generalize x.top (spc c a) = T at *
  generalize spc c a = S at *
  generalize wat c ws (a + 1) = m1 at *
  generalize kdOf (wat c ws a) = K at *
  generalize ptOf (wat c ws a) = P at *
  generalize rwOf (wat c ws a) = R at *
  generalize agOf (wat c ws a) = A at *
  generalize stOf (wat c ws a) = U at *
  generalize hdOf (wat c ws a) = H at *
  generalize wat c ws a = m at *
  obtain ⟨p0, p1⟩ := hpt
  obtain ⟨r0, r1⟩ := hrw
  have hz' : (S == 0) = false := by simp [hS0]
  have ht' : decide (T ≤ a) = false := decide_eq_false (by omega)
  go_enter Tryz.func30, Tryz.ntmps30
  go_upto_region 1 with fail
  generalize (w.alloc (.cells (hcells 0 0 0 0 0 0 false) 31)) = w0 at *
  go_wp2_with fail
  refine (HS.out w0 hb).mono ?_
  rintro e w1 ⟨rfl, l1⟩
  have b1 := hb.trans (l1.mono hb.size)
  have hX1 := hX.keep l1 hxlt
  have hx1 := hX1.lt
  clear hb HS hX l1 hxlt
  go_wp2_with fail
  refine (HT.out w1 b1).mono ?_
  rintro e w2 ⟨rfl, l2⟩
  have b2 := b1.trans (l2.mono b1.size)
  have hX2 := hX1.keep l2 hx1
  have hx2 := hX2.lt
  clear l2 b1 hX1 hx1
  go_wp2_with fail
  refine (HW.out w2 b2).mono ?_
  rintro e w3 ⟨rfl, l3⟩
  have b3 := b2.trans (l3.mono b2.size)
  have hX3 := hX2.keep l3 hx2
  have hx3 := hX3.lt
  clear HW l3 b2 hX2 hx2
  go_wp2_with fail
  refine (HU.out w3).mono ?_
  rintro e w4 ⟨rfl, l4⟩
  have b4 := b3.trans (l4.mono b3.size)
  have hX4 := hX3.keep l4 hx3
  have hx4 := hX4.lt
  clear HU l4 b3 hX3 hx3
  go_upto_region 5 with fail
  have hX5 := hX4.keep (Below.alloc (Below.refl _ _) (Nat.le_refl _) (.cells (hcells 0 K P R A U H) 31)) hx4
  have hY5 := Box.new w4 31 (.int .u64 0) (.int .i64 K) (.int .i64 P) (.int .i64 R) (.int .i64 A) (.int .i64 U) (.bool H)
  have b5 := Below.alloc b4 b4.size (.cells (hcells 0 K P R A U H) 31)
  have hne : w.heap.size ≠ w4.heap.size := by omega
  have hBw : w.heap.size ≤ w4.heap.size := b4.size
  clear hX4 b4 hx4
  generalize (w4.alloc (.cells (hcells 0 K P R A U H) 31)) = w5 at *
  have hx5 := hX5.lt
  have hy5 := hY5.lt
  have hY5' := hY5
  obtain ⟨y0, y1, y2, y3, y4, y5, y6, -, -, -, -, -, -, -⟩ := hY5
  generalize w4.heap.size = B7 at *
  go_wp2_with fail
  clear y0 y1 y2 y3 y4 y5 y6
  refine (rsizeh_any 0 K P R A U H p0 p1 r0 r1 w5).mono ?_
  rintro e w6 ⟨rfl, hw6⟩
  have l6 : Below w5.heap.size w5 w6 := by rw [hw6]; exact Below.alloc (Below.refl _ _) (Nat.le_refl _) _
  clear hw6
  have b6 := b5.trans (l6.mono b5.size)
  have hX6 := hX5.keep l6 hx5
  have hY6 := hY5'.keep l6 hy5
  have hx6 := hX6.lt
  have hy6 := hY6.lt
  clear l6 b5 hX5 hY5' hx5 hy5
  go_wp2_with fail
  refine (HT.out w6 b6).mono ?_
  rintro e w7 ⟨rfl, l7⟩
  have b7 := b6.trans (l7.mono b6.size)
  have hX7 := hX6.keep l7 hx6
  have hY7 := hY6.keep l7 hy6
  have hx7 := hX7.lt
  have hy7 := hY7.lt
  clear l7 b6 hX6 hY6 hx6 hy6 HT
  have hgt : ¬ T < a + (2 + P + R) := by omega
  clear hz
  go_wp2_with fail
  refine (HW1.out w7 b7).mono ?_
  rintro e w8 ⟨rfl, l8⟩
  have b8 := b7.trans (l8.mono b7.size)
  have hX8 := hX7.keep l8 hx7
  have hY8 := hY7.keep l8 hy7
  have hne' : B7 ≠ w.heap.size := fun e => hne e.symm
  clear l8 b7 hX7 hY7 hx7 hy7 HW1
  obtain ⟨x0, x1, x2, x3, x4, x5, x6, f0, f1, f2, f3, f4, f5, f6⟩ := hX8
  obtain ⟨y0, y1, y2, y3, y4, y5, y6, e0, e1, e2, e3, e4, e5, e6⟩ := hY8
  go_wp2
  refine bodyPost_ret (by simp [results, Tryz.results30, go_sem, x0, x1, x2, x3, x4, x5, x6]; try rfl) rfl ?_
  refine ⟨rfl, ?_⟩
  go_grown
end

end Go.Proofs.YtbdkcelggffneaaGreatDoor
