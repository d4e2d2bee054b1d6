import Derived.Test.YtlkengnefhhppaaGreatDoorPCr
import Derived.Test.YtlkengnefhhppaaGreatDoorPBa
import Derived.Test.YtlkengnefhhppaaGreatDoorPYb
set_option linter.unusedVariables false
set_option maxHeartbeats 8000000
set_option maxRecDepth 20000
namespace Go.Proofs.YtlkengnefhhppaaGreatDoor
open Go.RowKit Go.Shelf
section
variable (b : Nat) (g : Nat → Nat) (c : Cfg) (x : Tps) (sw : Bool) (ws : Nat → Int)
theorem rhead_short (a : Int) (hS0 : spc c a ≠ 0) (ht : a < x.top (spc c a)) (hs : IsHead (wat c ws a)) (hz : x.top (spc c a) - a < osz c ws a) (hw : Wd (wat c ws a)) (w : World) (h : Ra w b g c x sw ws) :
  Calls Tryz.prog 75 #[.pointer (some ⟨b, 0, none⟩), .int .i64 a] w fun e w' => e = .returned (.tuple #[hv 0 0 0 0 0 0 false, .bool false]) ∧ Below w.heap.size w w' := by
 have hX := Box.new w 38 (.int .u64 0) (.int .i64 0) (.int .i64 0) (.int .i64 0) (.int .i64 0) (.int .i64 0) (.bool false)
 have hb := Below.alloc (Below.refl w.heap.size w) (Nat.le_refl _) (.cells (hcells 0 0 0 0 0 0 false) 38)
 have HS : Hid (∀ w1, Below w.heap.size w w1 → Calls Tryz.prog 99 #[.pointer (some ⟨b, 0, none⟩), .int .i64 a] w1 fun e w' => e = .returned (.int .i64 (spc c a)) ∧ Below w1.heap.size w1 w') := fun w1 l => rspaceof_any b g c x sw ws a w1 (h.below l)
 have HT : Hid (∀ w1, Below w.heap.size w w1 → Calls Tryz.prog 130 #[.pointer (some ⟨b, 0, none⟩), .int .i64 (spc c a)] w1 fun e w' => e = .returned (.int .i64 (x.top (spc c a))) ∧ Below w1.heap.size w1 w') := fun w1 l => rtop_any b g c x sw ws _ w1 (h.below l)
 have HW : Hid (∀ w1, Below w.heap.size w w1 → Calls Tryz.prog 38 #[.pointer (some ⟨b, 0, none⟩), .int .i64 a] w1 fun e w' => e = .returned (.int .u64 (wat c ws a)) ∧ Below w1.heap.size w1 w') := fun w1 l => rword_any b g c x sw ws a w1 (h.below l)
 have HU : Hid (∀ w1, Calls Tryz.prog 134 #[.int .u64 (wat c ws a)] w1 fun e w' => e = .returned (.tuple #[hv 0 (kdOf (wat c ws a)) (ptOf (wat c ws a)) (rwOf (wat c ws a)) (agOf (wat c ws a)) (stOf (wat c ws a)) (hdOf (wat c ws a)), .bool true]) ∧ Below w1.heap.size w1 w') := fun w1 => runpack_yes _ hw hs w1
 have HW1 : Hid (∀ w1, Below w.heap.size w w1 → Calls Tryz.prog 38 #[.pointer (some ⟨b, 0, none⟩), .int .i64 (a + 1)] w1 fun e w' => e = .returned (.int .u64 (wat c ws (a + 1))) ∧ Below w1.heap.size w1 w') := fun w1 l => rword_any b g c x sw ws (a + 1) w1 (h.below l)
 have hxlt := hX.lt
 have hpt := pt_in (wat c ws a)
 have hrw := rw_in (wat c ws a)
 have hTb : x.top (spc c a) ≤ 400000 := by
  have := h.ok.e1; have := h.ok.s1; have := h.ok.t1
  obtain ⟨a1, a2, a3, a4, a5, a6, a7, a8⟩ := h.tk
  unfold Tps.top
  repeat' split
  all_goals omega
 have ha1 : 1 ≤ a := by
  have := (spc_in h.ok a).2.2.1 hS0
  have := (spc_in h.ok a).1
  have hfp : ∀ s : Int, s ≠ 0 → 0 ≤ s → s ≤ 4 → 1 ≤ fst c s := fun s h1 h2 h3 => by
   have := h.ok.e0; have := h.ok.s0
   obtain rfl | rfl | rfl | rfl : s = 1 ∨ s = 2 ∨ s = 3 ∨ s = 4 := by omega
   all_goals
    simp [fst]
    try omega
  have := hfp (spc c a) hS0 (spc_in h.ok a).1 (spc_in h.ok a).2.1
  omega
 unfold osz at hz
 clear h hs hw
 generalize x.top (spc c a) = T at *
 generalize spc c a = S at *
 generalize wat c ws (a + 1) = m1 at *
 generalize kdOf (wat c ws a) = K at *
 generalize ptOf (wat c ws a) = P at *
 generalize rwOf (wat c ws a) = R at *
 generalize agOf (wat c ws a) = A at *
 generalize stOf (wat c ws a) = U at *
 generalize hdOf (wat c ws a) = H at *
 generalize wat c ws a = m at *
 obtain ⟨p0, p1⟩ := hpt
 obtain ⟨r0, r1⟩ := hrw
 have hz' : (S == 0) = false := by simp [hS0]
 have ht' : decide (T ≤ a) = false := decide_eq_false (by omega)
 go_enter Tryz.func75, Tryz.ntmps75
 go_upto_region 1 with fail
 generalize (w.alloc (.cells (hcells 0 0 0 0 0 0 false) 38)) = w0 at *
 go_wp2_with fail
 refine (HS.out w0 hb).mono ?_
 rintro e w1 ⟨rfl, l1⟩
 have b1 := hb.trans (l1.mono hb.size)
 have hX1 := hX.keep l1 hxlt
 have hx1 := hX1.lt
 clear hb HS hX l1 hxlt
 go_wp2_with fail
 refine (HT.out w1 b1).mono ?_
 rintro e w2 ⟨rfl, l2⟩
 have b2 := b1.trans (l2.mono b1.size)
 have hX2 := hX1.keep l2 hx1
 have hx2 := hX2.lt
 clear l2 b1 hX1 hx1
 go_wp2_with fail
 refine (HW.out w2 b2).mono ?_
 rintro e w3 ⟨rfl, l3⟩
 have b3 := b2.trans (l3.mono b2.size)
 have hX3 := hX2.keep l3 hx2
 have hx3 := hX3.lt
 clear HW l3 b2 hX2 hx2
 go_wp2_with fail
 refine (HU.out w3).mono ?_
 rintro e w4 ⟨rfl, l4⟩
 have b4 := b3.trans (l4.mono b3.size)
 have hX4 := hX3.keep l4 hx3
 have hx4 := hX4.lt
 clear HU l4 b3 hX3 hx3
 go_upto_region 5 with fail
 have hX5 := hX4.keep (Below.alloc (Below.refl _ _) (Nat.le_refl _) (.cells (hcells 0 K P R A U H) 38)) hx4
 have hY5 := Box.new w4 38 (.int .u64 0) (.int .i64 K) (.int .i64 P) (.int .i64 R) (.int .i64 A) (.int .i64 U) (.bool H)
 have b5 := Below.alloc b4 b4.size (.cells (hcells 0 K P R A U H) 38)
 have hne : w.heap.size ≠ w4.heap.size := by omega
 have hBw : w.heap.size ≤ w4.heap.size := b4.size
 clear hX4 b4 hx4
 generalize (w4.alloc (.cells (hcells 0 K P R A U H) 38)) = w5 at *
 have hx5 := hX5.lt
 have hy5 := hY5.lt
 have hY5' := hY5
 obtain ⟨y0, y1, y2, y3, y4, y5, y6, -, -, -, -, -, -, -⟩ := hY5
 generalize w4.heap.size = B7 at *
 go_wp2_with fail
 clear y0 y1 y2 y3 y4 y5 y6
 refine (rsizeh_any 0 K P R A U H p0 p1 r0 r1 w5).mono ?_
 rintro e w6 ⟨rfl, hw6⟩
 have l6 : Below w5.heap.size w5 w6 := by rw [hw6]; exact Below.alloc (Below.refl _ _) (Nat.le_refl _) _
 clear hw6
 have b6 := b5.trans (l6.mono b5.size)
 have hX6 := hX5.keep l6 hx5
 have hY6 := hY5'.keep l6 hy5
 have hx6 := hX6.lt
 have hy6 := hY6.lt
 clear l6 b5 hX5 hY5' hx5 hy5
 go_wp2_with fail
 refine (HT.out w6 b6).mono ?_
 rintro e w7 ⟨rfl, l7⟩
 have b7 := b6.trans (l7.mono b6.size)
 have hX7 := hX6.keep l7 hx6
 have hY7 := hY6.keep l7 hy6
 have hx7 := hX7.lt
 have hy7 := hY7.lt
 clear l7 b6 hX6 hY6 hx6 hy6 HT
 have hgt : T < a + (2 + P + R) := by omega
 clear HW1 hY7 hz
 obtain ⟨x0, x1, x2, x3, x4, x5, x6, f0, f1, f2, f3, f4, f5, f6⟩ := hX7
 go_wp2
 refine bodyPost_ret (by simp [results, Tryz.results75, go_sem, x0, x1, x2, x3, x4, x5, x6]; try rfl) rfl ?_
 refine ⟨rfl, ?_⟩
 go_grown
theorem rhead_yes (a : Int) (hS0 : spc c a ≠ 0) (ht : a < x.top (spc c a)) (hs : IsHead (wat c ws a)) (hz : osz c ws a ≤ x.top (spc c a) - a) (hw : Wd (wat c ws a)) (w : World) (h : Ra w b g c x sw ws) :
  Calls Tryz.prog 75 #[.pointer (some ⟨b, 0, none⟩), .int .i64 a] w fun e w' => e = .returned (.tuple #[hdv c ws a, .bool true]) ∧ Below w.heap.size w w' := by
 unfold hdv
 have hX := Box.new w 38 (.int .u64 0) (.int .i64 0) (.int .i64 0) (.int .i64 0) (.int .i64 0) (.int .i64 0) (.bool false)
 have hb := Below.alloc (Below.refl w.heap.size w) (Nat.le_refl _) (.cells (hcells 0 0 0 0 0 0 false) 38)
 have HS : Hid (∀ w1, Below w.heap.size w w1 → Calls Tryz.prog 99 #[.pointer (some ⟨b, 0, none⟩), .int .i64 a] w1 fun e w' => e = .returned (.int .i64 (spc c a)) ∧ Below w1.heap.size w1 w') := fun w1 l => rspaceof_any b g c x sw ws a w1 (h.below l)
 have HT : Hid (∀ w1, Below w.heap.size w w1 → Calls Tryz.prog 130 #[.pointer (some ⟨b, 0, none⟩), .int .i64 (spc c a)] w1 fun e w' => e = .returned (.int .i64 (x.top (spc c a))) ∧ Below w1.heap.size w1 w') := fun w1 l => rtop_any b g c x sw ws _ w1 (h.below l)
 have HW : Hid (∀ w1, Below w.heap.size w w1 → Calls Tryz.prog 38 #[.pointer (some ⟨b, 0, none⟩), .int .i64 a] w1 fun e w' => e = .returned (.int .u64 (wat c ws a)) ∧ Below w1.heap.size w1 w') := fun w1 l => rword_any b g c x sw ws a w1 (h.below l)
 have HU : Hid (∀ w1, Calls Tryz.prog 134 #[.int .u64 (wat c ws a)] w1 fun e w' => e = .returned (.tuple #[hv 0 (kdOf (wat c ws a)) (ptOf (wat c ws a)) (rwOf (wat c ws a)) (agOf (wat c ws a)) (stOf (wat c ws a)) (hdOf (wat c ws a)), .bool true]) ∧ Below w1.heap.size w1 w') := fun w1 => runpack_yes _ hw hs w1
 have HW1 : Hid (∀ w1, Below w.heap.size w w1 → Calls Tryz.prog 38 #[.pointer (some ⟨b, 0, none⟩), .int .i64 (a + 1)] w1 fun e w' => e = .returned (.int .u64 (wat c ws (a + 1))) ∧ Below w1.heap.size w1 w') := fun w1 l => rword_any b g c x sw ws (a + 1) w1 (h.below l)
 have hxlt := hX.lt
 have hpt := pt_in (wat c ws a)
 have hrw := rw_in (wat c ws a)
 have hTb : x.top (spc c a) ≤ 400000 := by
  have := h.ok.e1; have := h.ok.s1; have := h.ok.t1
  obtain ⟨a1, a2, a3, a4, a5, a6, a7, a8⟩ := h.tk
  unfold Tps.top
  repeat' split
  all_goals omega
 have ha1 : 1 ≤ a := by
  have := (spc_in h.ok a).2.2.1 hS0
  have := (spc_in h.ok a).1
  have hfp : ∀ s : Int, s ≠ 0 → 0 ≤ s → s ≤ 4 → 1 ≤ fst c s := fun s h1 h2 h3 => by
   have := h.ok.e0; have := h.ok.s0
   obtain rfl | rfl | rfl | rfl : s = 1 ∨ s = 2 ∨ s = 3 ∨ s = 4 := by omega
   all_goals
    simp [fst]
    try omega
  have := hfp (spc c a) hS0 (spc_in h.ok a).1 (spc_in h.ok a).2.1
  omega
 unfold osz at hz
 clear h hs hw
 generalize x.top (spc c a) = T at *
 generalize spc c a = S at *
 generalize wat c ws (a + 1) = m1 at *
 generalize kdOf (wat c ws a) = K at *
 generalize ptOf (wat c ws a) = P at *
 generalize rwOf (wat c ws a) = R at *
 generalize agOf (wat c ws a) = A at *
 generalize stOf (wat c ws a) = U at *
 generalize hdOf (wat c ws a) = H at *
 generalize wat c ws a = m at *
 obtain ⟨p0, p1⟩ := hpt
 obtain ⟨r0, r1⟩ := hrw
 have hz' : (S == 0) = false := by simp [hS0]
 have ht' : decide (T ≤ a) = false := decide_eq_false (by omega)
 go_enter Tryz.func75, Tryz.ntmps75
 go_upto_region 1 with fail
 generalize (w.alloc (.cells (hcells 0 0 0 0 0 0 false) 38)) = w0 at *
 go_wp2_with fail
 refine (HS.out w0 hb).mono ?_
 rintro e w1 ⟨rfl, l1⟩
 have b1 := hb.trans (l1.mono hb.size)
 have hX1 := hX.keep l1 hxlt
 have hx1 := hX1.lt
 clear hb HS hX l1 hxlt
 go_wp2_with fail
 refine (HT.out w1 b1).mono ?_
 rintro e w2 ⟨rfl, l2⟩
 have b2 := b1.trans (l2.mono b1.size)
 have hX2 := hX1.keep l2 hx1
 have hx2 := hX2.lt
 clear l2 b1 hX1 hx1
 go_wp2_with fail
 refine (HW.out w2 b2).mono ?_
 rintro e w3 ⟨rfl, l3⟩
 have b3 := b2.trans (l3.mono b2.size)
 have hX3 := hX2.keep l3 hx2
 have hx3 := hX3.lt
 clear HW l3 b2 hX2 hx2
 go_wp2_with fail
 refine (HU.out w3).mono ?_
 rintro e w4 ⟨rfl, l4⟩
 have b4 := b3.trans (l4.mono b3.size)
 have hX4 := hX3.keep l4 hx3
 have hx4 := hX4.lt
 clear HU l4 b3 hX3 hx3
 go_upto_region 5 with fail
 have hX5 := hX4.keep (Below.alloc (Below.refl _ _) (Nat.le_refl _) (.cells (hcells 0 K P R A U H) 38)) hx4
 have hY5 := Box.new w4 38 (.int .u64 0) (.int .i64 K) (.int .i64 P) (.int .i64 R) (.int .i64 A) (.int .i64 U) (.bool H)
 have b5 := Below.alloc b4 b4.size (.cells (hcells 0 K P R A U H) 38)
 have hne : w.heap.size ≠ w4.heap.size := by omega
 have hBw : w.heap.size ≤ w4.heap.size := b4.size
 clear hX4 b4 hx4
 generalize (w4.alloc (.cells (hcells 0 K P R A U H) 38)) = w5 at *
 have hx5 := hX5.lt
 have hy5 := hY5.lt
 have hY5' := hY5
 obtain ⟨y0, y1, y2, y3, y4, y5, y6, -, -, -, -, -, -, -⟩ := hY5
 generalize w4.heap.size = B7 at *
 go_wp2_with fail
 clear y0 y1 y2 y3 y4 y5 y6
 refine (rsizeh_any 0 K P R A U H p0 p1 r0 r1 w5).mono ?_
 rintro e w6 ⟨rfl, hw6⟩
 have l6 : Below w5.heap.size w5 w6 := by rw [hw6]; exact Below.alloc (Below.refl _ _) (Nat.le_refl _) _
 clear hw6
 have b6 := b5.trans (l6.mono b5.size)
 have hX6 := hX5.keep l6 hx5
 have hY6 := hY5'.keep l6 hy5
 have hx6 := hX6.lt
 have hy6 := hY6.lt
 clear l6 b5 hX5 hY5' hx5 hy5
 go_wp2_with fail
 refine (HT.out w6 b6).mono ?_
 rintro e w7 ⟨rfl, l7⟩
 have b7 := b6.trans (l7.mono b6.size)
 have hX7 := hX6.keep l7 hx6
 have hY7 := hY6.keep l7 hy6
 have hx7 := hX7.lt
 have hy7 := hY7.lt
 clear l7 b6 hX6 hY6 hx6 hy6 HT
 have hgt : ¬ T < a + (2 + P + R) := by omega
 clear hz
 go_wp2_with fail
 refine (HW1.out w7 b7).mono ?_
 rintro e w8 ⟨rfl, l8⟩
 have b8 := b7.trans (l8.mono b7.size)
 have hX8 := hX7.keep l8 hx7
 have hY8 := hY7.keep l8 hy7
 have hne' : B7 ≠ w.heap.size := fun e => hne e.symm
 clear l8 b7 hX7 hY7 hx7 hy7 HW1
 obtain ⟨x0, x1, x2, x3, x4, x5, x6, f0, f1, f2, f3, f4, f5, f6⟩ := hX8
 obtain ⟨y0, y1, y2, y3, y4, y5, y6, e0, e1, e2, e3, e4, e5, e6⟩ := hY8
 go_wp2
 refine bodyPost_ret (by simp [results, Tryz.results75, go_sem, x0, x1, x2, x3, x4, x5, x6]; try rfl) rfl ?_
 refine ⟨rfl, ?_⟩
 go_grown
end
theorem zer_step (ws : Nat → Int) (p i : Nat) : upd (zer ws p i) (p + i) 0 = zer ws p (i + 1) := by
 funext j
 unfold upd zer
 by_cases e : j = p + i
 ·rw [if_pos e, if_pos (by omega)]
 ·rw [if_neg e]
  by_cases h : p ≤ j ∧ j < p + i
  ·rw [if_pos h, if_pos (by omega)]
  ·rw [if_neg h, if_neg (by omega)]
theorem zer_zero (ws : Nat → Int) (p : Nat) : zer ws p 0 = ws := by
 funext j
 unfold zer
 rw [if_neg (by omega)]
section
variable (b : Nat) (g : Nat → Nat) (c : Cfg) (x : Tps) (sw : Bool) (ws : Nat → Int)
theorem rtake_no (s n : Int) (hn : ¬ (1 ≤ n ∧ n ≤ bhd c s - x.top s)) (w : World) (h : Ra w b g c x sw ws) :
  Calls Tryz.prog 82 #[.pointer (some ⟨b, 0, none⟩), .int .i64 s, .int .i64 n] w fun e w' => e = .returned (.tuple #[.int .i64 0, .bool false]) ∧ Below w.heap.size w w' := by
 have hf := rfree_any b g c x sw ws s w h
 have hsp := rspace_any s w
 clear h
 by_cases hs : 1 ≤ s ∧ s ≤ 4
 ·rw [decide_eq_true hs] at hsp
  clear hs
  generalize bhd c s - x.top s = f at *
  go_enter Tryz.func82, Tryz.ntmps82
  go_wp2_with fail
  refine hsp.mono ?_
  rintro e w1 ⟨rfl, rfl⟩
  clear hsp
  by_cases h1 : n < 1
  ·clear hn hf
   go_wp2
   go_ret2
   exact ⟨rfl, Below.refl _ _⟩
  ·have h2 : f < n := by omega
   have h1' : decide (n < 1) = false := decide_eq_false h1
   clear hn
   go_wp2_with fail
   refine hf.mono ?_
   rintro e w2 ⟨rfl, l2⟩
   clear hf
   go_wp2
   go_ret2
   exact ⟨rfl, l2⟩
 ·rw [decide_eq_false hs] at hsp
  clear hs hf hn
  go_enter Tryz.func82, Tryz.ntmps82
  go_wp2_with fail
  refine hsp.mono ?_
  rintro e w1 ⟨rfl, rfl⟩
  clear hsp
  go_wp2
  go_ret2
  exact ⟨rfl, Below.refl _ _⟩
theorem rtake_yes (s p n : Nat) (s1 : 1 ≤ s) (s4 : s ≤ 4) (hp : x.top s = p) (h0 : 0 < n) (h1 : (p : Int) + n ≤ bhd c s) (w : World) (h : Ra w b g c x sw ws) :
  Calls Tryz.prog 82 #[.pointer (some ⟨b, 0, none⟩), .int .i64 s, .int .i64 n] w fun e w' => e = .returned (.tuple #[.int .i64 p, .bool true]) ∧ Ra w' b g c (x.put s (p + n)) sw (zer ws p n) ∧ Touch (rft b g) w w' := by
 have hf := rfree_any b g c x sw ws s w h
 have hsp := rspace_any (s : Int) w
 rw [decide_eq_true (show 1 ≤ (s : Int) ∧ (s : Int) ≤ 4 by omega)] at hsp
 have HT : Hid (∀ w1, Below w.heap.size w w1 → Calls Tryz.prog 130 #[.pointer (some ⟨b, 0, none⟩), .int .i64 s] w1 fun e w' => e = .returned (.int .i64 p) ∧ Below w1.heap.size w1 w') := fun w1 l => by
  have := rtop_any b g c x sw ws s w1 (h.below l)
  rw [hp] at this
  exact this
 have hsb := spn_bhd h.ok s s1 s4
 have hfi := fst_in h.ok (s : Int)
 have hft : fst c s ≤ p := by
  rw [← hp]
  obtain ⟨a1, a2, a3, a4, a5, a6, a7, a8⟩ := h.tk
  obtain rfl | rfl | rfl | rfl : s = 1 ∨ s = 2 ∨ s = 3 ∨ s = 4 := by omega
  all_goals
   simp only [fst, Tps.top]
   simp
   omega
 have hnf : (n : Int) ≤ bhd c s - x.top s := by omega
 obtain ⟨u, hu⟩ : ∃ u : Nat, x.top s - fst c s = u := ⟨(x.top s - fst c s).toNat, by omega⟩
 have HU : Hid (x.top s - fst c s = u) := hu
 have HP : Hid ((fst c s).toNat + u = p ∧ u + n ≤ spn c s ∧ (u : Int) + n = p + n - fst c s) := ⟨by omega, by omega, by omega⟩
 have HV : Hid (fst c s ≤ (p : Int) + n ∧ (p : Int) + n ≤ bhd c s) := ⟨by omega, h1⟩
 have hub : u < 65537 := by have := hsb.2.1; omega
 have hnb : n < 65537 := by have := hsb.2.1; omega
 have hsn := hsb.2.1
 have HR : Hid (Ra w b g c x sw ws) := h
 clear h hsb hfi hft hu h1 hp
 generalize bhd c s - x.top s = f at *
 have hs5 : (s : Int) < 5 := by omega
 go_enter Tryz.func82, Tryz.ntmps82
 go_wp2_with fail
 refine hsp.mono ?_
 rintro e w1 ⟨rfl, rfl⟩
 clear hsp
 go_wp2_with fail
 refine hf.mono ?_
 rintro e w1 ⟨rfl, l1⟩
 clear hf
 go_wp2_with fail
 refine (HT.out w1 l1).mono ?_
 rintro e w2 ⟨rfl, l2⟩
 have l3 := l1.trans (l2.mono l1.size)
 have hR2 : Hid (Ra w2 b g c x sw ws) := HR.out.below l3
 have T2 : Hid (Touch (rft b g) w w2) := Touch.of_below l3 _
 clear l1 l2 l3 HT HR hnf
 go_wp2
 go_loopw [9] (fun v wr => ∃ i : Nat, i ≤ n ∧ v = .int .i64 i ∧ Hid (Ra wr b g c x sw (zer ws p i) ∧ Touch (rft b g) w wr)) (fun v _ => n - (intOf v).toNat)
 case atStart => exact ⟨0, by omega, rfl, by rw [zer_zero]; exact ⟨hR2.out, T2.out⟩⟩
 case round =>
  obtain ⟨i, hi, rfl, HI⟩ := hrel
  clear hR2 T2
  by_cases hin : i < n
  ·have hii : (i : Int) < n := by omega
   obtain ⟨d, hd⟩ : ∃ d : Nat, (u : Int) + i = d := ⟨u + i, by omega⟩
   have hdl : d < spn c s := by have := HP.out.2.1; omega
   have k1 := HI.out.1.wrd s s1 s4
   have k2 := HI.out.1.usd s s1 s4
   rw [HU.out] at k2
   have k3 := HI.out.1.wcell s d s1 s4 hdl
   have kz := (HI.out.1.row s s1 s4).frozen d
   have HX : Hid (Ra (wr.setCell ⟨g s, d, none⟩ (.int .u64 0)) b g c x sw (zer ws p (i + 1)) ∧ Touch (rft b g) w (wr.setCell ⟨g s, d, none⟩ (.int .u64 0))) := by
    refine ⟨?_, HI.out.2.trans (Touch.setCell _ _ _ (rft_g b g s s1 s4))⟩
    have := HI.out.1.set s d 0 s1 s4 hdl
    rw [show (fst c s).toNat + d = p + i by have := HP.out.1; omega, zer_step] at this
    exact this
   clear HI
   generalize zer ws p i ((fst c s).toNat + d) = m at *
   generalize spn c s = N at *
   have hdi : (d : Int) < N := by omega
   go_upto_region 7 with fail
   refine quiet_tail 15 mixed (by kernel_rfl) ?_
   simp only [List.take_succ_cons, List.take_zero, List.drop_succ_cons, List.drop_zero]
   repeat (go_big_quiet_step (fail))
   refine wpQuiet_nil ?_
   go_wp2
   go_roundw
   case rel => exact ⟨i + 1, by omega, by go_num, HX.out.1.keep (fun _ _ => rfl), ⟨HX.out.2.os, HX.out.2.tape, HX.out.2.output, HX.out.2.size, HX.out.2.block⟩⟩
   case measure => simp [intOf]; omega
  ·obtain rfl : i = n := by omega
   have k2 := HI.out.1.usd s s1 s4
   rw [HU.out] at k2
   have kz := HI.out.1.own.frozen (19 + s)
   have HX : Hid (Ra (wr.setCell ⟨b, 19 + s, none⟩ (.int .i64 ((u : Int) + i))) b g c (x.put s (p + i)) sw (zer ws p i) ∧ Touch (rft b g) w (wr.setCell ⟨b, 19 + s, none⟩ (.int .i64 ((u : Int) + i)))) := by
    refine ⟨?_, HI.out.2.trans (Touch.setCell _ _ _ (by simp [rft]))⟩
    rw [HP.out.2.2]
    exact HI.out.1.put s _ s1 s4 HV.out.1 HV.out.2
   clear HI
   go_upto_region 8 with fail
   refine quiet_tail 13 mixed (by kernel_rfl) ?_
   simp only [List.take_succ_cons, List.take_zero, List.drop_succ_cons, List.drop_zero]
   repeat (go_big_quiet_step (fail))
   refine wpQuiet_nil ?_
   go_wp2
   go_ret2
   exact ⟨rfl, HX.out.1.keep (fun _ _ => rfl), ⟨HX.out.2.os, HX.out.2.tape, HX.out.2.output, HX.out.2.size, HX.out.2.block⟩⟩
end
theorem bhd_words {c : Cfg} (ok : c.Ok) (s : Int) : bhd c s ≤ c.words := by
 have := ok.e0; have := ok.s0; have := ok.t0
 unfold bhd Cfg.words
 repeat' split
 all_goals omega
theorem fst_one {c : Cfg} (ok : c.Ok) (s : Nat) (h1 : 1 ≤ s) (h4 : s ≤ 4) : 1 ≤ fst c s := by
 have := ok.e0; have := ok.s0
 obtain rfl | rfl | rfl | rfl : s = 1 ∨ s = 2 ∨ s = 3 ∨ s = 4 := by omega
 all_goals
  simp [fst]
  try omega
theorem Ra.top_in {w : World} {b : Nat} {g : Nat → Nat} {c : Cfg} {x : Tps} {sw : Bool} {ws : Nat → Int} (h : Ra w b g c x sw ws) (s : Nat) (h1 : 1 ≤ s) (h4 : s ≤ 4) : fst c s ≤ x.top s ∧ x.top s ≤ bhd c s := by
 have := h.ok.e1; have := h.ok.s1; have := h.ok.t1
 obtain ⟨a1, a2, a3, a4, a5, a6, a7, a8⟩ := h.tk
 obtain rfl | rfl | rfl | rfl : s = 1 ∨ s = 2 ∨ s = 3 ∨ s = 4 := by omega
 all_goals
  simp only [fst, bhd, Tps.top]
  simp
  omega
section
variable (b : Nat) (g : Nat → Nat) (c : Cfg) (x : Tps) (sw : Bool) (ws : Nat → Int)
theorem rput_bad (S s k p r a t : Int) (h : Bool) (hf : flt k p r a t ≠ 0) (w : World) :
  Calls Tryz.prog 31 #[.pointer (some ⟨b, 0, none⟩), .int .i64 S, hv s k p r a t h] w fun e w' => e = .returned (.tuple #[.int .i64 0, .bool false]) ∧ Below w.heap.size w w' := by
 have b0 : Below w.heap.size w (w.alloc (.cells (hcells s k p r a t h) 38)) := Below.alloc (Below.refl _ _) (Nat.le_refl _) _
 have hp := rpack_any s k p r a t h (w.alloc (.cells (hcells s k p r a t h) 38))
 generalize flt k p r a t = f at *
 generalize pck k p r a t h = m at *
 go_enter Tryz.func31, Tryz.ntmps31
 go_wp2_with fail
 refine hp.mono ?_
 rintro e w1 ⟨rfl, b1⟩
 have b2 := b0.trans (b1.mono b0.size)
 clear b0 b1 hp
 go_wp2
 go_ret2
 exact ⟨rfl, b2⟩
theorem rput_full (S s k p r a t : Int) (h : Bool) (hf : flt k p r a t = 0) (hn : ¬ 2 + p + r ≤ bhd c S - x.top S) (w : World) (hA : Ra w b g c x sw ws) :
  Calls Tryz.prog 31 #[.pointer (some ⟨b, 0, none⟩), .int .i64 S, hv s k p r a t h] w fun e w' => e = .returned (.tuple #[.int .i64 0, .bool false]) ∧ Below w.heap.size w w' := by
 have b0 : Below w.heap.size w (w.alloc (.cells (hcells s k p r a t h) 38)) := Below.alloc (Below.refl _ _) (Nat.le_refl _) _
 have hp := rpack_any s k p r a t h (w.alloc (.cells (hcells s k p r a t h) 38))
 have x0 := Box.new w 38 (.int .u64 s) (.int .i64 k) (.int .i64 p) (.int .i64 r) (.int .i64 a) (.int .i64 t) (.bool h)
 have m := May.of hf
 rw [hf, pck_ok hf] at hp
 generalize wrd k p r a t h = wd at hp
 have p0 := m.p0; have p1 := m.p1; have r0 := m.r0; have r1 := m.r1
 have Ht : Hid (∀ w1, Below w.heap.size w w1 → Calls Tryz.prog 82 #[.pointer (some ⟨b, 0, none⟩), .int .i64 S, .int .i64 (2 + p + r)] w1 fun e w' => e = .returned (.tuple #[.int .i64 0, .bool false]) ∧ Below w1.heap.size w1 w') := fun w1 l => rtake_no b g c x sw ws S _ (fun hh => hn hh.2) w1 (hA.below l)
 clear hA hf m hn
 go_enter Tryz.func31, Tryz.ntmps31
 go_wp2_with fail
 refine hp.mono ?_
 rintro e w1 ⟨rfl, b1⟩
 have b2 := b0.trans (b1.mono b0.size)
 have x1 := x0.keep b1 x0.lt
 clear b0 b1 hp x0
 obtain ⟨y0, y1, y2, y3, y4, y5, y6, -, -, -, -, -, -, -⟩ := x1
 go_wp2_with fail
 refine (rsizeh_any s k p r a t h p0 p1 r0 (by omega) _).mono ?_
 rintro e w2 ⟨rfl, hw2⟩
 have b3 : Below w.heap.size w w2 := by rw [hw2]; exact Below.alloc b2 b2.size _
 clear hw2 b2 y0 y1 y2 y3 y4 y5 y6
 go_wp2_with fail
 refine (Ht.out w2 b3).mono ?_
 rintro e w3 ⟨rfl, b4⟩
 have b5 := b3.trans (b4.mono b3.size)
 clear b3 b4 Ht
 go_wp2
 go_ret2
 exact ⟨rfl, b5⟩
theorem rput_yes (S : Nat) (S1 : 1 ≤ S) (S4 : S ≤ 4) (s k p r a t : Int) (h : Bool) (hf : flt k p r a t = 0) (q n : Nat) (hq : x.top S = q) (hn : (n : Int) = 2 + p + r) (hle : (q : Int) + n ≤ bhd c S) (w : World) (hA : Ra w b g c x sw ws) :
  Calls Tryz.prog 31 #[.pointer (some ⟨b, 0, none⟩), .int .i64 S, hv s k p r a t h] w fun e w' => e = .returned (.tuple #[.int .i64 q, .bool true]) ∧ Ra w' b g c (x.put S (q + n)) sw (putw ws q n (wrd k p r a t h) s) ∧ Touch (rft b g) w w' := by
 have b0 : Below w.heap.size w (w.alloc (.cells (hcells s k p r a t h) 38)) := Below.alloc (Below.refl _ _) (Nat.le_refl _) _
 have hp := rpack_any s k p r a t h (w.alloc (.cells (hcells s k p r a t h) 38))
 have x0 := Box.new w 38 (.int .u64 s) (.int .i64 k) (.int .i64 p) (.int .i64 r) (.int .i64 a) (.int .i64 t) (.bool h)
 have m := May.of hf
 rw [hf, pck_ok hf] at hp
 generalize wrd k p r a t h = wd at hp ⊢
 have p0 := m.p0; have p1 := m.p1; have r0 := m.r0; have r1 := m.r1
 have wo := bhd_words hA.ok S
 have fo := fst_one hA.ok S S1 S4
 have ti := hA.top_in S S1 S4
 have Ht : Hid (∀ w1, Below w.heap.size w w1 → Calls Tryz.prog 82 #[.pointer (some ⟨b, 0, none⟩), .int .i64 S, .int .i64 (2 + p + r)] w1 fun e w' => e = .returned (.tuple #[.int .i64 q, .bool true]) ∧ Ra w' b g c (x.put S (q + n)) sw (zer ws q n) ∧ Touch (rft b g) w1 w') := fun w1 l => by
  rw [← hn]
  exact rtake_yes b g c x sw ws S q n S1 S4 hq (by omega) hle w1 (hA.below l)
 have H1 : Hid (∀ w1, Ra w1 b g c (x.put S (q + n)) sw (zer ws q n) → Calls Tryz.prog 76 #[.pointer (some ⟨b, 0, none⟩), .int .i64 q, .int .u64 wd] w1 fun e w' => e = .returned (.bool true) ∧ Ra w' b g c (x.put S (q + n)) sw (upd (zer ws q n) q wd) ∧ Touch (rft b g) w1 w') := fun w1 hw => rsetWord_yes b g c _ sw _ q wd (by omega) (by omega) w1 hw
 have H2 : Hid (∀ w1, Ra w1 b g c (x.put S (q + n)) sw (upd (zer ws q n) q wd) → Calls Tryz.prog 76 #[.pointer (some ⟨b, 0, none⟩), .int .i64 ((q : Int) + 1), .int .u64 s] w1 fun e w' => e = .returned (.bool true) ∧ Ra w' b g c (x.put S (q + n)) sw (putw ws q n wd s) ∧ Touch (rft b g) w1 w') := fun w1 hw => by
  have := rsetWord_int b g c _ sw _ ((q : Int) + 1) s (by omega) (by omega) w1 hw
  rw [show ((q : Int) + 1).toNat = q + 1 by omega] at this
  exact this
 have hlt := hA.lt
 have HL : Hid (∀ z ∈ rft b g, z < w.heap.size) := hlt
 obtain ⟨Q, hQ⟩ : ∃ Q : Int, Q = q := ⟨_, rfl⟩
 have hqb : Q < 400000 := by have := spn_bhd hA.ok S S1 S4; have := fst_in hA.ok (S : Int); omega
 have hq0 : 0 ≤ Q := by omega
 rw [← hQ] at Ht H1 H2 ⊢
 clear hA hf m hn hle wo fo ti hlt hQ hq
 go_enter Tryz.func31, Tryz.ntmps31
 go_wp2_with fail
 refine hp.mono ?_
 rintro e w1 ⟨rfl, b1⟩
 have b2 := b0.trans (b1.mono b0.size)
 have x1 := x0.keep b1 x0.lt
 clear b0 b1 hp x0
 have x1' := x1
 obtain ⟨y0, y1, y2, y3, y4, y5, y6, -, -, -, -, -, -, -⟩ := x1
 go_wp2_with fail
 refine (rsizeh_any s k p r a t h p0 p1 r0 (by omega) _).mono ?_
 rintro e w2 ⟨rfl, hw2⟩
 have b3 : Below w.heap.size w w2 := by rw [hw2]; exact Below.alloc b2 b2.size _
 have x2 : w2.cell? ⟨w.heap.size, 0, none⟩ = some (.int .u64 s) := by
  rw [hw2]; exact (x1'.keep (Below.alloc (Below.refl _ _) (Nat.le_refl _) _) x1'.lt).h0
 have hwl : w.heap.size < w2.heap.size := World.block_lt_of_cell? _ _ x2
 clear hw2 b2 y0 y1 y2 y3 y4 y5 y6 x1'
 go_wp2_with fail
 refine (Ht.out w2 b3).mono ?_
 rintro e w3 ⟨rfl, hA3, t3⟩
 have hoff : w.heap.size ∉ rft b g := fun hh => Nat.lt_irrefl _ (HL.out _ hh)
 have x3 : w3.cell? ⟨w.heap.size, 0, none⟩ = some (.int .u64 s) := by
  rw [World.cell?_of_block (w := w2) (t3.block _ hwl hoff)]; exact x2
 have hwl3 : w.heap.size < w3.heap.size := World.block_lt_of_cell? _ _ x3
 have T4 : Hid (Touch (rft b g) w w3) := (Touch.of_below b3 _).trans t3
 clear t3 b3 x2 hwl Ht
 go_wp2_with fail
 refine (H1.out w3 hA3).mono ?_
 rintro e w4 ⟨rfl, hA4, t4⟩
 have x4 : w4.cell? ⟨w.heap.size, 0, none⟩ = some (.int .u64 s) := by
  rw [World.cell?_of_block (w := w3) (t4.block _ hwl3 hoff)]; exact x3
 have T5 : Hid (Touch (rft b g) w w4) := T4.out.trans t4
 clear t4 x3 hA3 T4 H1 hwl3
 go_wp2_with fail
 refine (H2.out w4 hA4).mono ?_
 rintro e w5 ⟨rfl, hA5, t5⟩
 have T6 : Hid (Touch (rft b g) w w5) := T5.out.trans t5
 have HA5 : Hid _ := hA5
 clear t5 x4 hA4 T5 H2 hA5 hoff
 go_wp2
 go_ret2
 exact ⟨rfl, HA5.out, T6.out⟩
theorem rfill_yes (S p n : Nat) (S1 : 1 ≤ S) (S4 : S ≤ 4) (hp : x.top S = p) (h0 : 0 < n) (h1 : (p : Int) + n ≤ bhd c S) (w : World) (h : Ra w b g c x sw ws) :
  Calls Tryz.prog 56 #[.pointer (some ⟨b, 0, none⟩), .int .i64 S, .int .i64 n] w fun e w' => e = .returned (.bool true) ∧ Ra w' b g c (x.put S (p + n)) sw (upd (zer ws p n) p ((n : Int) * 4 + 3)) ∧ Touch (rft b g) w w' := by
 have hf := rfiller_any (n : Int) w
 have ht := rtake_yes b g c x sw ws S p n S1 S4 hp h0 h1 w h
 have wo := bhd_words h.ok S
 have fo := fst_one h.ok S S1 S4
 have ti := h.top_in S S1 S4
 have hs := spn_bhd h.ok S S1 S4
 have fi := fst_in h.ok (S : Int)
 have hnn : (n : Int) ≤ 65536 := by omega
 have hg : tg 3 (n : Int) = (n : Int) * 4 + 3 := by unfold tg; rw [if_neg (by omega)]
 rw [hg] at hf
 have H1 : Hid (∀ w1, Ra w1 b g c (x.put S (p + n)) sw (zer ws p n) → Calls Tryz.prog 76 #[.pointer (some ⟨b, 0, none⟩), .int .i64 p, .int .u64 ((n : Int) * 4 + 3)] w1 fun e w' => e = .returned (.bool true) ∧ Ra w' b g c (x.put S (p + n)) sw (upd (zer ws p n) p ((n : Int) * 4 + 3)) ∧ Touch (rft b g) w1 w') := fun w1 hw => rsetWord_yes b g c _ sw _ p _ (by omega) (by omega) w1 hw
 have hmz : ¬ (n : Int) * 4 + 3 = 0 := by omega
 clear h wo fo ti hs fi hg h1 hp
 generalize (n : Int) * 4 + 3 = m at *
 go_enter Tryz.func56, Tryz.ntmps56
 go_wp2_with fail
 refine hf.mono ?_
 rintro e w1 ⟨rfl, rfl⟩
 clear hf
 go_wp2_with fail
 refine ht.mono ?_
 rintro e w2 ⟨rfl, hA2, t2⟩
 clear ht
 go_wp2_with fail
 refine (H1.out w2 hA2).mono ?_
 rintro e w3 ⟨rfl, hA3, t3⟩
 have T3 : Hid (Touch (rft b g) w1 w3) := t2.trans t3
 have HA3 : Hid _ := hA3
 clear t2 t3 hA2 hA3 H1
 go_wp2
 go_ret
 exact ⟨rfl, HA3.out, T3.out⟩
end
def At (c : Cfg) (x : Tps) (ws : Nat → Int) (a : Int) : Prop := spc c a ≠ 0 ∧ a < x.top (spc c a) ∧ Stands c ws (x.top (spc c a)) a
section
variable (b : Nat) (g : Nat → Nat) (c : Cfg) (x : Tps) (sw : Bool) (ws : Nat → Int)
theorem rhead_at (a : Int) (h : At c x ws a) (hw : Wd (wat c ws a)) (w : World) (hA : Ra w b g c x sw ws) :
  Calls Tryz.prog 75 #[.pointer (some ⟨b, 0, none⟩), .int .i64 a] w fun e w' => e = .returned (.tuple #[hdv c ws a, .bool true]) ∧ Below w.heap.size w w' :=
 rhead_yes b g c x sw ws a h.1 h.2.1 h.2.2.1 h.2.2.2 hw w hA
theorem rhead_nat (a : Int) (h : ¬ At c x ws a) (hw : Wd (wat c ws a)) (w : World) (hA : Ra w b g c x sw ws) :
  Calls Tryz.prog 75 #[.pointer (some ⟨b, 0, none⟩), .int .i64 a] w fun e w' => e = .returned (.tuple #[hv 0 0 0 0 0 0 false, .bool false]) ∧ Below w.heap.size w w' := by
 by_cases h0 : spc c a = 0
 ·exact rhead_out b g c x sw ws a (.inl h0) w hA
 ·by_cases h1 : a < x.top (spc c a)
  ·by_cases h2 : IsHead (wat c ws a)
   ·refine rhead_short b g c x sw ws a h0 h1 h2 ?_ hw w hA
    have h3 : ¬ osz c ws a ≤ x.top (spc c a) - a := fun hh => h ⟨h0, h1, h2, hh⟩
    omega
   ·exact rhead_bad b g c x sw ws a h0 h1 h2 hw w hA
  ·exact rhead_out b g c x sw ws a (.inr (by omega)) w hA
theorem at_in {w : World} {b : Nat} {g : Nat → Nat} {c : Cfg} {x : Tps} {sw : Bool} {ws : Nat → Int} (hA : Ra w b g c x sw ws) {a : Int} (h : At c x ws a) : 1 ≤ a ∧ a + 2 + ptOf (wat c ws a) + rwOf (wat c ws a) ≤ c.words ∧ c.words ≤ 262145 := by
 obtain ⟨h0, h1, h2, h3⟩ := h
 have q := spc_in hA.ok a
 obtain ⟨n, hn⟩ : ∃ n : Nat, spc c a = n := ⟨(spc c a).toNat, by omega⟩
 rw [hn] at h0 h1 h3 q
 have f1 := fst_one hA.ok n (by omega) (by omega)
 have t1 := hA.top_in n (by omega) (by omega)
 have w1 := bhd_words hA.ok (n : Int)
 have q2 := q.2.2.1 h0
 unfold osz at h3
 have := hA.ok.e1; have := hA.ok.s1; have := hA.ok.t1
 refine ⟨by omega, by omega, by unfold Cfg.words; omega⟩
theorem rptr_yes (a i : Int) (hat : At c x ws a) (hi0 : 0 ≤ i) (hi1 : i < ptOf (wat c ws a)) (hv : wat c ws (a + 2 + i) < c.words) (hw : ∀ j, Wd (wat c ws j)) (w : World) (hA : Ra w b g c x sw ws) :
  Calls Tryz.prog 132 #[.pointer (some ⟨b, 0, none⟩), .int .i64 a, .int .i64 i] w fun e w' => e = .returned (.tuple #[.int .i64 (wat c ws (a + 2 + i)), .bool true]) ∧ Below w.heap.size w w' := by
 have hh := rhead_at b g c x sw ws a hat (hw a) w hA
 have hin := at_in hA hat
 have hpt := pt_in (wat c ws a)
 have hrw := rw_in (wat c ws a)
 have HW : Hid (∀ w1, Below w.heap.size w w1 → Calls Tryz.prog 38 #[.pointer (some ⟨b, 0, none⟩), .int .i64 (a + 2 + i)] w1 fun e w' => e = .returned (.int .u64 (wat c ws (a + 2 + i))) ∧ Below w1.heap.size w1 w') := fun w1 l => rword_any b g c x sw ws _ w1 (hA.below l)
 have HZ : Hid (∀ w1, Below w.heap.size w w1 → Calls Tryz.prog 36 #[.pointer (some ⟨b, 0, none⟩)] w1 fun e w' => e = .returned (.int .i64 c.words) ∧ w' = w1) := fun w1 l => rsize_any b g c x sw ws w1 (hA.below l)
 have hwv := hw (a + 2 + i)
 have hv0 := hwv.1
 unfold hdv at hh
 clear hA hat hw
 generalize wat c ws (a + 2 + i) = v at *
 have hcw := hin.2.2
 have hcw0 : 0 ≤ c.words := by omega
 generalize c.words = cw at *
 generalize wat c ws (a + 1) = m1 at *
 generalize kdOf (wat c ws a) = K at *
 generalize ptOf (wat c ws a) = P at *
 generalize rwOf (wat c ws a) = R at *
 generalize agOf (wat c ws a) = A at *
 generalize stOf (wat c ws a) = U at *
 generalize hdOf (wat c ws a) = H at *
 obtain ⟨p0, p1⟩ := hpt
 obtain ⟨r0, r1⟩ := hrw
 have ha1 := hin.1
 have ha2 : a < 262145 := by omega
 clear hin
 go_enter Tryz.func132, Tryz.ntmps132
 go_wp2_with fail
 refine hh.mono ?_
 rintro e w1 ⟨rfl, l1⟩
 clear hh
 go_upto_region 2 with fail
 have hY := Box.new w1 38 (.int .u64 m1) (.int .i64 K) (.int .i64 P) (.int .i64 R) (.int .i64 A) (.int .i64 U) (.bool H)
 have l2 := Below.alloc l1 l1.size (.cells (hcells m1 K P R A U H) 38)
 generalize (w1.alloc (.cells (hcells m1 K P R A U H) 38)) = w2 at *
 obtain ⟨y0, y1, y2, y3, y4, y5, y6, -, -, -, -, -, -, -⟩ := hY
 clear l1
 have hi0' : decide (i < 0) = false := decide_eq_false (by omega)
 go_wp2_with fail
 refine (HW.out w2 l2).mono ?_
 rintro e w3 ⟨rfl, l3⟩
 have l4 := l2.trans (l3.mono l2.size)
 clear l2 l3 y0 y1 y2 y3 y4 y5 y6 HW
 go_wp2_with fail
 refine (HZ.out w3 l4).mono ?_
 rintro e w4 ⟨rfl, rfl⟩
 clear HZ
 go_wp2
 go_ret2
 exact ⟨rfl, l4⟩
end
end Go.Proofs.YtlkengnefhhppaaGreatDoor
