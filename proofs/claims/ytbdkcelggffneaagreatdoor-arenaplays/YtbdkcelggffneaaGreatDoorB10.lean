/-
  The document's arena: the head of an object.
-/
import Derived.Test.YtbdkcelggffneaaGreatDoorB8
import Derived.Test.YtbdkcelggffneaaGreatDoorPCr
set_option linter.unusedVariables false
set_option maxRecDepth 20000
namespace Go.Proofs.YtbdkcelggffneaaGreatDoor
open Go.RowKit Go.Shelf

theorem rsizeh_any (s k p r a t : Int) (h : Bool) (p0 : 0 ≤ p) (p1 : p ≤ 4095) (r0 : 0 ≤ r) (r1 : r ≤ 65535) (w : World) :
    Calls Tryz.prog 80 #[hv s k p r a t h] w fun e w' => e = .returned (.int .i64 (2 + p + r)) ∧ w' = w.alloc (.cells (hcells s k p r a t h) 31) := by
  go_enter Tryz.func80, Tryz.ntmps80
  go_wp2
  go_ret
  exact ⟨rfl, rfl⟩

section
variable (b : Nat) (g : Nat → Nat) (c : Cfg) (x : Tps) (sw : Bool) (ws : Nat → Int)

set_option maxHeartbeats 2000000 in
theorem rhead_out (a : Int) (hno : spc c a = 0 ∨ x.top (spc c a) ≤ a) (w : World) (h : Ra w b g c x sw ws) :
    Calls Tryz.prog 30 #[.pointer (some ⟨b, 0, none⟩), .int .i64 a] w fun e w' => e = .returned (.tuple #[hv 0 0 0 0 0 0 false, .bool false]) ∧ Below w.heap.size w w' := by
  have hX := Box.new w 31 (.int .u64 0) (.int .i64 0) (.int .i64 0) (.int .i64 0) (.int .i64 0) (.int .i64 0) (.bool false)
  have hb := Below.alloc (Below.refl w.heap.size w) (Nat.le_refl _) (.cells (hcells 0 0 0 0 0 0 false) 31)
  have HS : Hid (∀ w1, Below w.heap.size w w1 → Calls Tryz.prog 27 #[.pointer (some ⟨b, 0, none⟩), .int .i64 a] w1 fun e w' => e = .returned (.int .i64 (spc c a)) ∧ Below w1.heap.size w1 w') := fun w1 l => rspaceof_any b g c x sw ws a w1 (h.below l)
  have HT : Hid (∀ w1, Below w.heap.size w w1 → Calls Tryz.prog 76 #[.pointer (some ⟨b, 0, none⟩), .int .i64 (spc c a)] w1 fun e w' => e = .returned (.int .i64 (x.top (spc c a))) ∧ Below w1.heap.size w1 w') := fun w1 l => rtop_any b g c x sw ws _ w1 (h.below l)
  have hxlt := hX.lt
  clear h
  generalize x.top (spc c a) = T at *
  generalize spc c a = S at *
  go_enter Tryz.func30, Tryz.ntmps30
  go_upto_region 1 with fail
  generalize (w.alloc (.cells (hcells 0 0 0 0 0 0 false) 31)) = w0 at *
  go_wp2_with fail
  refine (HS.out w0 hb).mono ?_
  rintro e w1 ⟨rfl, l1⟩
  have b1 := hb.trans (l1.mono hb.size)
  have hX1 := hX.keep l1 hxlt
  clear hb HS hX
  by_cases hz : S = 0
  · subst hz
    obtain ⟨x0, x1, x2, x3, x4, x5, x6, f0, f1, f2, f3, f4, f5, f6⟩ := hX1
    clear hno HT l1 hxlt
    go_wp2
    refine bodyPost_ret (by simp [results, Tryz.results30, go_sem, x0, x1, x2, x3, x4, x5, x6]; try rfl) rfl ?_
    refine ⟨rfl, ?_⟩
    go_grown
  · have hz' : decide (S = 0) = false := decide_eq_false hz
    have hTa : T ≤ a := by omega
    have hx1 := hX1.lt
    go_wp2_with fail
    refine (HT.out w1 b1).mono ?_
    rintro e w2 ⟨rfl, l2⟩
    have b2 := b1.trans (l2.mono b1.size)
    have hX2 := hX1.keep l2 hx1
    clear HT l1 l2 hxlt b1 hX1 hx1 hno
    obtain ⟨x0, x1, x2, x3, x4, x5, x6, f0, f1, f2, f3, f4, f5, f6⟩ := hX2
    go_wp2
    refine bodyPost_ret (by simp [results, Tryz.results30, go_sem, x0, x1, x2, x3, x4, x5, x6]; try rfl) rfl ?_
    refine ⟨rfl, ?_⟩
    go_grown

set_option maxHeartbeats 2000000 in
theorem rhead_bad (a : Int) (hS0 : spc c a ≠ 0) (ht : a < x.top (spc c a)) (hs : ¬ IsHead (wat c ws a)) (hw : Wd (wat c ws a)) (w : World) (h : Ra w b g c x sw ws) :
    Calls Tryz.prog 30 #[.pointer (some ⟨b, 0, none⟩), .int .i64 a] w fun e w' => e = .returned (.tuple #[hv 0 0 0 0 0 0 false, .bool false]) ∧ Below w.heap.size w w' := by
  have hX := Box.new w 31 (.int .u64 0) (.int .i64 0) (.int .i64 0) (.int .i64 0) (.int .i64 0) (.int .i64 0) (.bool false)
  have hb := Below.alloc (Below.refl w.heap.size w) (Nat.le_refl _) (.cells (hcells 0 0 0 0 0 0 false) 31)
  have HS : Hid (∀ w1, Below w.heap.size w w1 → Calls Tryz.prog 27 #[.pointer (some ⟨b, 0, none⟩), .int .i64 a] w1 fun e w' => e = .returned (.int .i64 (spc c a)) ∧ Below w1.heap.size w1 w') := fun w1 l => rspaceof_any b g c x sw ws a w1 (h.below l)
  have HT : Hid (∀ w1, Below w.heap.size w w1 → Calls Tryz.prog 76 #[.pointer (some ⟨b, 0, none⟩), .int .i64 (spc c a)] w1 fun e w' => e = .returned (.int .i64 (x.top (spc c a))) ∧ Below w1.heap.size w1 w') := fun w1 l => rtop_any b g c x sw ws _ w1 (h.below l)
  have HW : Hid (∀ w1, Below w.heap.size w w1 → Calls Tryz.prog 19 #[.pointer (some ⟨b, 0, none⟩), .int .i64 a] w1 fun e w' => e = .returned (.int .u64 (wat c ws a)) ∧ Below w1.heap.size w1 w') := fun w1 l => rword_any b g c x sw ws a w1 (h.below l)
  have HU : Hid (∀ w1, Calls Tryz.prog 79 #[.int .u64 (wat c ws a)] w1 fun e w' => e = .returned (.tuple #[hv 0 0 0 0 0 0 false, .bool false]) ∧ Below w1.heap.size w1 w') := fun w1 => runpack_no _ hw hs w1
  have hxlt := hX.lt
  clear h hs hw
  generalize x.top (spc c a) = T at *
  generalize spc c a = S at *
  generalize wat c ws a = m at *
  have hz' : (S == 0) = false := by simp [hS0]
  have ht' : decide (T ≤ a) = false := decide_eq_false (by omega)
  go_enter Tryz.func30, Tryz.ntmps30
  go_upto_region 1 with fail
  generalize (w.alloc (.cells (hcells 0 0 0 0 0 0 false) 31)) = w0 at *
  go_wp2_with fail
  refine (HS.out w0 hb).mono ?_
  rintro e w1 ⟨rfl, l1⟩
  have b1 := hb.trans (l1.mono hb.size)
  have hX1 := hX.keep l1 hxlt
  have hx1 := hX1.lt
  clear hb HS hX l1 hxlt
  go_wp2_with fail
  refine (HT.out w1 b1).mono ?_
  rintro e w2 ⟨rfl, l2⟩
  have b2 := b1.trans (l2.mono b1.size)
  have hX2 := hX1.keep l2 hx1
  have hx2 := hX2.lt
  clear HT l2 b1 hX1 hx1
  go_wp2_with fail
  refine (HW.out w2 b2).mono ?_
  rintro e w3 ⟨rfl, l3⟩
  have b3 := b2.trans (l3.mono b2.size)
  have hX3 := hX2.keep l3 hx2
  have hx3 := hX3.lt
  clear HW l3 b2 hX2 hx2
  go_wp2_with fail
  refine (HU.out w3).mono ?_
  rintro e w4 ⟨rfl, l4⟩
  have b4 := b3.trans (l4.mono b3.size)
  have hX4 := hX3.keep l4 hx3
  have hx4 := hX4.lt
  clear HU l4 b3 hX3 hx3
  go_upto_region 5 with fail
  have hX5 := hX4.keep (Below.alloc (Below.refl _ _) (Nat.le_refl _) (.cells (hcells 0 0 0 0 0 0 false) 31)) hx4
  have b5 := Below.alloc b4 b4.size (.cells (hcells 0 0 0 0 0 0 false) 31)
  clear hX4 b4 hx4
  generalize (w4.alloc (.cells (hcells 0 0 0 0 0 0 false) 31)) = w5 at *
  obtain ⟨x0, x1, x2, x3, x4, x5, x6, f0, f1, f2, f3, f4, f5, f6⟩ := hX5
  go_wp2
  refine bodyPost_ret (by simp [results, Tryz.results30, go_sem, x0, x1, x2, x3, x4, x5, x6]; try rfl) rfl ?_
  refine ⟨rfl, ?_⟩
  go_grown
end

end Go.Proofs.YtbdkcelggffneaaGreatDoor
