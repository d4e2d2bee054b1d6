import Derived.Test.YtbdkcelggffneaaGreatDoorPBb
import Derived.Test.YtbdkcelggffneaaGreatDoorPHb
/-
  The program's arena: where no object stands.
-/
set_option linter.unusedVariables false
set_option maxRecDepth 20000
namespace Go.Proofs.YtbdkcelggffneaaGreatDoor
open Go.RowKit Go.Shelf

set_option maxHeartbeats 2000000 in
theorem object_flag (d : Bool) (b : Nat) (a S tp s K P R A T : Int) (H : Bool) (sv : Value) (hsv : (ocells s K P R A T H sv).all (·.oneCell') = true) (hS0 : S ≠ 0) (w : World)
    (hsp : ∀ w1, Below w.heap.size w w1 → Calls Tryz.prog 25 #[.pointer (some ⟨b, 0, none⟩), .int .i64 a] w1 fun e w' => e = .returned (.int .i64 S) ∧ Below w1.heap.size w1 w')
    (hto : ∀ w1, Below w.heap.size w w1 → Calls Tryz.prog 16 #[.pointer (some ⟨b, 0, none⟩), .int .i64 S] w1 fun e w' => e = .returned (.int .i64 tp) ∧ Below w1.heap.size w1 w')
    (hbe : ∀ w1, Below w.heap.size w w1 → Calls Tryz.prog 87 #[.pointer (some ⟨b, 0, none⟩), .int .i64 tp, .int .i64 a] w1 fun e w' => e = .returned (.tuple #[ov s K P R A T H sv, .bool d]) ∧ Below w1.heap.size w1 w') :
    Calls Tryz.prog 78 #[.pointer (some ⟨b, 0, none⟩), .int .i64 a] w fun e w' => e = .returned (.tuple #[ov s K P R A T H sv, .bool d]) ∧ Below w.heap.size w w' := by
  have b0 : Below w.heap.size w (w.alloc (.cells ozero 109)) := Below.alloc (Below.refl _ _) (Nat.le_refl _) _
  have o0 := Oc.new w ozero
  have h1 := hsp _ b0
  have Hto : Hid (∀ w1, Below w.heap.size w w1 → Calls Tryz.prog 16 #[.pointer (some ⟨b, 0, none⟩), .int .i64 S] w1 fun e w' => e = .returned (.int .i64 tp) ∧ Below w1.heap.size w1 w') := hto
  have Hbe : Hid (∀ w1, Below w.heap.size w w1 → Calls Tryz.prog 87 #[.pointer (some ⟨b, 0, none⟩), .int .i64 tp, .int .i64 a] w1 fun e w' => e = .returned (.tuple #[ov s K P R A T H sv, .bool d]) ∧ Below w1.heap.size w1 w') := hbe
  have Hall : Hid ((ocells s K P R A T H sv).all (·.oneCell') = true) := hsv
  clear hsp hto hbe
  go_enter Tryz.func78, Tryz.ntmps78
  go_wp2_with fail
  refine h1.mono ?_
  rintro e w1 ⟨rfl, l1⟩
  have o1 := o0.below l1
  have b1 := b0.trans (l1.mono b0.size)
  clear h1 b0 l1 o0
  go_wp2_with fail
  refine (Hto.out w1 b1).mono ?_
  rintro e w2 ⟨rfl, l2⟩
  have o2 := o1.below l2
  have b2 := b1.trans (l2.mono b1.size)
  clear b1 l2 o1
  go_wp2_with fail
  refine (Hbe.out w2 b2).mono ?_
  rintro e w3 ⟨rfl, l3⟩
  have o3 := o2.below l3
  have b3 := b2.trans (l3.mono b2.size)
  clear b2 l3 o2
  go_wp2_with (refine wpList_store_row rfl 109 _ _ rfl w.heap.size (ocells s K P R A T H sv) rfl rfl 109 ozero o3.at_ oinfo rfl Hall.out ?_)
  have o4 : Oc (w3.setRow w.heap.size (ocells s K P R A T H sv)) w.heap.size (ocells s K P R A T H sv) := ⟨setRow_heap _ _ _ _ _ _ o3.at_⟩
  have b4 := below_setRow b3 (Nat.le_refl _) (ocells s K P R A T H sv)
  generalize w3.setRow w.heap.size (ocells s K P R A T H sv) = w4 at o4 b4 ⊢
  clear o3 b3
  go_wp2
  refine bodyPost_ret (results_cell2 Tryz.results78 rfl o4.load) rfl ?_
  exact ⟨rfl, b4⟩

set_option maxHeartbeats 2000000 in
theorem object_out (b : Nat) (a : Int) (w : World) (hsp : ∀ w1, Below w.heap.size w w1 → Calls Tryz.prog 25 #[.pointer (some ⟨b, 0, none⟩), .int .i64 a] w1 fun e w' => e = .returned (.int .i64 0) ∧ Below w1.heap.size w1 w') :
    Calls Tryz.prog 78 #[.pointer (some ⟨b, 0, none⟩), .int .i64 a] w fun e w' => e = .returned (.tuple #[.agg ozero, .bool false]) ∧ Below w.heap.size w w' := by
  have b0 : Below w.heap.size w (w.alloc (.cells ozero 109)) := Below.alloc (Below.refl _ _) (Nat.le_refl _) _
  have o0 := Oc.new w ozero
  have h1 := hsp _ b0
  clear hsp
  go_enter Tryz.func78, Tryz.ntmps78
  go_wp2_with fail
  refine h1.mono ?_
  rintro e w1 ⟨rfl, l1⟩
  have o1 := o0.below l1
  have b1 := b0.trans (l1.mono b0.size)
  clear h1 b0 l1 o0
  go_wp2_with (refine wpList_store_row rfl 109 _ _ rfl w.heap.size ozero rfl rfl 109 ozero o1.at_ oinfo rfl (by kernel_rfl) ?_)
  have o4 : Oc (w1.setRow w.heap.size ozero) w.heap.size ozero := ⟨setRow_heap _ _ _ _ _ _ o1.at_⟩
  have b4 := below_setRow b1 (Nat.le_refl _) ozero
  generalize w1.setRow w.heap.size ozero = w4 at o4 b4 ⊢
  clear o1 b1
  go_wp2
  refine bodyPost_ret (results_cell2 Tryz.results78 rfl o4.load) rfl ?_
  exact ⟨rfl, b4⟩

theorem object_not (b g : Nat) (c : Cfg) (x : Tps) (sw : Bool) (ws : Nat → Int) (a : Int) (hn : ¬ At c x ws a) (w : World) (h : Ar w b g c x sw ws) (hL : Laid w) :
    Calls Tryz.prog 78 #[.pointer (some ⟨b, 0, none⟩), .int .i64 a] w fun e w' => e = .returned (.tuple #[.agg ozero, .bool false]) ∧ Below w.heap.size w w' := by
  by_cases h0 : spc c a = 0
  · exact object_out b a w (fun w1 l => by have := space_any b g c x sw ws a w1 (h.below l); rw [h0] at this; exact this)
  · have hpos := spc_pos h.ok (a := a) h0
    refine object_flag false b a (spc c a) (x.top (spc c a)) 0 0 0 0 0 0 false (.slice none 0 0) (by kernel_rfl) h0 w
      (fun w1 l => space_any b g c x sw ws a w1 (h.below l))
      (fun w1 l => top_any b g c x sw ws _ w1 (h.below l)) (fun w1 l => ?_)
    by_cases h1 : a < x.top (spc c a)
    · exact below_no b g c x sw ws _ a (by omega) h1 (by have := h.sub_in (spc c a); omega) (fun hs => hn ⟨h0, h1, hs⟩) w1 (h.below l) (hL.keep l)
    · exact below_above b g _ a (by omega) w1

end Go.Proofs.YtbdkcelggffneaaGreatDoor

/-
  The program's arena: Head; the two arenas' Head.
-/
set_option linter.unusedVariables false
set_option maxRecDepth 20000
namespace Go.Proofs.YtbdkcelggffneaaGreatDoor
open Go.RowKit Go.Shelf

set_option maxHeartbeats 2000000 in
theorem head_core (d : Bool) (b : Nat) (a s K P R A T : Int) (H : Bool) (ad : Option Addr) (n cap : Nat) (w : World)
    (ho : ∀ w1, Below w.heap.size w w1 → Calls Tryz.prog 78 #[.pointer (some ⟨b, 0, none⟩), .int .i64 a] w1 fun e w' => e = .returned (.tuple #[ov s K P R A T H (.slice ad n cap), .bool d]) ∧ Below w1.heap.size w1 w') :
    Calls Tryz.prog 29 #[.pointer (some ⟨b, 0, none⟩), .int .i64 a] w fun e w' => e = .returned (.tuple #[hv s K P R A T H, .bool d]) ∧ Below w.heap.size w w' := by
  have hX := Box.new w 31 (.int .u64 0) (.int .i64 0) (.int .i64 0) (.int .i64 0) (.int .i64 0) (.int .i64 0) (.bool false)
  have hb := Below.alloc (Below.refl w.heap.size w) (Nat.le_refl _) (.cells (hcells 0 0 0 0 0 0 false) 31)
  have h1 := ho _ hb
  have hxlt := hX.lt
  clear ho
  go_enter Tryz.func29, Tryz.ntmps29
  go_upto_region 1 with fail
  generalize (w.alloc (.cells (hcells 0 0 0 0 0 0 false) 31)) = w0 at *
  go_wp2_with fail
  refine h1.mono ?_
  rintro e w1 ⟨rfl, l1⟩
  have b1 := hb.trans (l1.mono hb.size)
  have hX1 := hX.keep l1 hxlt
  have hx1 := hX1.lt
  clear h1 hb hX l1 hxlt
  go_upto_region 2 with fail
  have hX2 := hX1.keep (Below.alloc (Below.refl _ _) (Nat.le_refl _) (.cells (ocells s K P R A T H (.slice ad n cap)) 109)) hx1
  have b2 := Below.alloc b1 b1.size (.cells (ocells s K P R A T H (.slice ad n cap)) 109)
  have hy : ∀ j, (w1.alloc (.cells (ocells s K P R A T H (.slice ad n cap)) 109)).cell? ⟨w1.heap.size, j, none⟩ = (ocells s K P R A T H (.slice ad n cap))[j]? := fun j => cell_of_row _ _ j _ _ _ (heap_alloc_new w1 (.cells (ocells s K P R A T H (.slice ad n cap)) 109 (0, 0)))
  have hne : w.heap.size ≠ w1.heap.size := by omega
  generalize (w1.alloc (.cells (ocells s K P R A T H (.slice ad n cap)) 109)) = w2 at *
  have y0 : w2.cell? ⟨w1.heap.size, 0, none⟩ = some (.int .u64 s) := hy 0
  have y1 : w2.cell? ⟨w1.heap.size, 1, none⟩ = some (.int .i64 K) := hy 1
  have y2 : w2.cell? ⟨w1.heap.size, 2, none⟩ = some (.int .i64 P) := hy 2
  have y3 : w2.cell? ⟨w1.heap.size, 3, none⟩ = some (.int .i64 R) := hy 3
  have y4 : w2.cell? ⟨w1.heap.size, 4, none⟩ = some (.int .i64 A) := hy 4
  have y5 : w2.cell? ⟨w1.heap.size, 5, none⟩ = some (.int .i64 T) := hy 5
  have y6 : w2.cell? ⟨w1.heap.size, 6, none⟩ = some (.bool H) := hy 6
  clear hX1 b1 hx1 hy
  generalize w1.heap.size = B7 at *
  have hne' : B7 ≠ w.heap.size := fun e => hne e.symm
  obtain ⟨x0, x1, x2, x3, x4, x5, x6, f0, f1, f2, f3, f4, f5, f6⟩ := hX2
  go_wp2
  refine bodyPost_ret (by simp [results, Tryz.results29, go_sem, x0, x1, x2, x3, x4, x5, x6]; try rfl) rfl ?_
  refine ⟨rfl, ?_⟩
  go_grown

section
variable (p a h r : Nat) (g : Nat → Nat) (c : Cfg) (x : Tps) (sw : Bool) (ws : Nat → Int)

theorem head_not (i : Int) (hn : ¬ At c x ws i) (w : World) (hA : Ar w a h c x sw ws) (hL : Laid w) :
    Calls Tryz.prog 29 #[.pointer (some ⟨a, 0, none⟩), .int .i64 i] w fun e w' => e = .returned (.tuple #[hv 0 0 0 0 0 0 false, .bool false]) ∧ Below w.heap.size w w' :=
  head_core false a i 0 0 0 0 0 0 false none 0 0 w (fun w1 l => object_not a h c x sw ws i hn w1 (hA.below l) (hL.keep l))

theorem head_at (i : Int) (hat : At c x ws i) (w : World) (hA : Ar w a h c x sw ws) (hL : Laid w) :
    Calls Tryz.prog 29 #[.pointer (some ⟨a, 0, none⟩), .int .i64 i] w fun e w' => e = .returned (.tuple #[hdv c ws i, .bool true]) ∧ Below w.heap.size w w' :=
  head_core true a i _ _ _ _ _ _ _ _ _ _ w (fun w1 l => object_yes a h c x sw ws i _ rfl hat.1 hat.2.1 hat.2.2 w1 (hA.below l) (hL.keep l))
end

end Go.Proofs.YtbdkcelggffneaaGreatDoor

/-
  The program's arena: Ptr and Raw where there is no such field.
-/
set_option linter.unusedVariables false
set_option maxRecDepth 20000
namespace Go.Proofs.YtbdkcelggffneaaGreatDoor
open Go.RowKit Go.Shelf

section
variable (b g : Nat) (c : Cfg) (x : Tps) (sw : Bool) (ws : Nat → Int)

set_option maxHeartbeats 1000000 in
theorem ptrs_not (a : Int) (hn : ¬ At c x ws a) (w : World) (h : Ar w b g c x sw ws) (hL : Laid w) :
    Calls Tryz.prog 81 #[.pointer (some ⟨b, 0, none⟩), .int .i64 a] w fun e w' => e = .returned (.slice none 0 0) ∧ Below w.heap.size w w' := by
  have ho := object_not b g c x sw ws a hn w h hL
  clear h hL hn
  go_enter Tryz.func81, Tryz.ntmps81
  go_wp2_with fail
  refine ho.mono ?_
  rintro e w1 ⟨rfl, b1⟩
  have b2 := Below.alloc b1 b1.size (.cells ozero 109)
  clear ho b1
  go_wp2
  go_ret
  exact ⟨rfl, b2⟩

set_option maxHeartbeats 1000000 in
theorem raws_not (a : Int) (hn : ¬ At c x ws a) (w : World) (h : Ar w b g c x sw ws) (hL : Laid w) :
    Calls Tryz.prog 82 #[.pointer (some ⟨b, 0, none⟩), .int .i64 a] w fun e w' => e = .returned (.slice none 0 0) ∧ Below w.heap.size w w' := by
  have ho := object_not b g c x sw ws a hn w h hL
  clear h hL hn
  go_enter Tryz.func82, Tryz.ntmps82
  go_wp2_with fail
  refine ho.mono ?_
  rintro e w1 ⟨rfl, b1⟩
  have b2 := Below.alloc b1 b1.size (.cells ozero 109)
  clear ho b1
  go_wp2
  go_ret
  exact ⟨rfl, b2⟩
end

set_option maxHeartbeats 1000000 in
theorem ptr_out (b : Nat) (a i : Int) (n : Nat) (hi : ¬ (0 ≤ i ∧ i < (n : Int))) (w : World)
    (ho : Calls Tryz.prog 81 #[.pointer (some ⟨b, 0, none⟩), .int .i64 a] w fun e w' => (∃ ad, e = .returned (.slice ad n n)) ∧ Below w.heap.size w w') :
    Calls Tryz.prog 32 #[.pointer (some ⟨b, 0, none⟩), .int .i64 a, .int .i64 i] w fun e w' => e = .returned (.tuple #[.int .i64 0, .bool false]) ∧ Below w.heap.size w w' := by
  have hd : decide (0 ≤ i ∧ i < (n : Int)) = false := decide_eq_false hi
  go_enter Tryz.func32, Tryz.ntmps32
  go_wp2_with fail
  refine ho.mono ?_
  rintro e w1 ⟨⟨ad, rfl⟩, b1⟩
  have Hh : Hid (∀ w, Calls Tryz.prog 72 #[.slice ad n n, .int .i64 i] w fun e w' => e = .returned (.bool false) ∧ w' = w) := fun w => (has_any _ _ _ _ w).mono (fun e w' ⟨h1, h2⟩ => ⟨by rw [h1, hd], h2.symm⟩)
  clear ho hd hi
  go_upto_region 2 with fail
  go_quiet ((go_at_call 72; exact Calls.quiet_of_same (Hh.out _)))
  go_wp2
  go_ret2
  exact ⟨rfl, below_drewN b1 _⟩

set_option maxHeartbeats 1000000 in
theorem raw_out (b : Nat) (a i : Int) (n cap : Nat) (hi : ¬ (0 ≤ i ∧ i < (n : Int))) (w : World)
    (ho : Calls Tryz.prog 82 #[.pointer (some ⟨b, 0, none⟩), .int .i64 a] w fun e w' => (∃ ad, e = .returned (.slice ad n cap)) ∧ Below w.heap.size w w') :
    Calls Tryz.prog 34 #[.pointer (some ⟨b, 0, none⟩), .int .i64 a, .int .i64 i] w fun e w' => e = .returned (.tuple #[.int .u64 0, .bool false]) ∧ Below w.heap.size w w' := by
  have hd : decide (0 ≤ i ∧ i < (n : Int)) = false := decide_eq_false hi
  have Hh : Hid (∀ (ad : Option Addr) (w : World), Calls Tryz.prog 72 #[.slice ad n cap, .int .i64 i] w fun e w' => e = .returned (.bool false) ∧ w' = w) := fun ad w => (has_any _ _ _ _ w).mono (fun e w' ⟨h1, h2⟩ => ⟨by rw [h1, hd], h2.symm⟩)
  clear hd hi
  go_enter Tryz.func34, Tryz.ntmps34
  go_wp2_with fail
  refine ho.mono ?_
  rintro e w1 ⟨⟨ad, rfl⟩, b1⟩
  clear ho
  go_wp2_with fail
  refine (Hh.out ad w1).mono ?_
  rintro e w2 ⟨rfl, rfl⟩
  clear Hh
  go_wp2
  go_ret2
  exact ⟨rfl, b1⟩

set_option maxHeartbeats 1000000 in
theorem ptr_wild (b g o n N i : Nat) (a v : Int) (hi : i < n) (hv0 : 0 ≤ v) (hv1 : (N : Int) ≤ v) (hN : (N : Int) ≤ 262145) (w : World)
    (hb : b < w.heap.size) (hg : g < w.heap.size) (k14 : w.cell? ⟨b, 14, none⟩ = some (.slice (some ⟨g, 0, none⟩) N N)) (kc : w.cell? ⟨g, o + i, none⟩ = some (.int .u64 v))
    (ho : Calls Tryz.prog 81 #[.pointer (some ⟨b, 0, none⟩), .int .i64 a] w fun e w' => e = .returned (.slice (some ⟨g, o, none⟩) n n) ∧ Below w.heap.size w w') :
    Calls Tryz.prog 32 #[.pointer (some ⟨b, 0, none⟩), .int .i64 a, .int .i64 i] w fun e w' => e = .returned (.tuple #[.int .i64 0, .bool false]) ∧ Below w.heap.size w w' := by
  have hd : decide (0 ≤ (i : Int) ∧ (i : Int) < (n : Int)) = true := decide_eq_true (by omega)
  have hii : (i : Int) < (n : Int) := by omega
  go_enter Tryz.func32, Tryz.ntmps32
  go_wp2_with fail
  refine ho.mono ?_
  rintro e w1 ⟨rfl, b1⟩
  have k1 := (b1.cell (p := ⟨b, 14, none⟩) hb).trans k14
  have k2 := (b1.cell (p := ⟨g, o + i, none⟩) hg).trans kc
  have Hh : Hid (∀ w, Calls Tryz.prog 72 #[.slice (some ⟨g, o, none⟩) n n, .int .i64 i] w fun e w' => e = .returned (.bool true) ∧ w' = w) := fun w => (has_any _ _ _ _ w).mono (fun e w' ⟨h1, h2⟩ => ⟨by rw [h1, hd], h2.symm⟩)
  clear ho k14 kc hd
  go_upto_region 2 with fail
  go_quiet ((go_at_call 72; exact Calls.quiet_of_same (Hh.out _)))
  go_wp2
  go_ret2
  exact ⟨rfl, below_drewN b1 _⟩

end Go.Proofs.YtbdkcelggffneaaGreatDoor

/-
  The two arenas side by side: Ptr and Raw.
-/
set_option linter.unusedVariables false
set_option maxRecDepth 20000
namespace Go.Proofs.YtbdkcelggffneaaGreatDoor
open Go.RowKit Go.Shelf

section
variable (p a h r : Nat) (g : Nat → Nat) (c : Cfg) (x : Tps) (sw : Bool) (ws : Nat → Int)

set_option maxHeartbeats 4000000 in
theorem step15_core (V : Int) (d : Bool) (o : Opg) (ho : o.k = 15)
    (h1 : ∀ w1, Bo w1 p a h r g c x sw ws → Calls Tryz.prog 32 #[.pointer (some ⟨a, 0, none⟩), .int .i64 o.at_, .int .i64 o.i] w1 fun e w' => e = .returned (.tuple #[.int .i64 V, .bool d]) ∧ Below w1.heap.size w1 w')
    (h2 : ∀ w1, Bo w1 p a h r g c x sw ws → Calls Tryz.prog 33 #[.pointer (some ⟨r, 0, none⟩), .int .i64 o.at_, .int .i64 o.i] w1 fun e w' => e = .returned (.tuple #[.int .i64 V, .bool d]) ∧ Below w1.heap.size w1 w')
    (w : World) (hB : Bo w p a h r g c x sw ws) :
    Calls Tryz.prog 7 #[.pointer (some ⟨p, 0, none⟩), o.val] w fun e w' => e = .returned (.bool true) ∧ Below w.heap.size w w' := by
  have l0 : Hid (Below w.heap.size w (w.alloc (.cells o.cells 33))) := Below.alloc (Below.refl _ _) (Nat.le_refl _) _
  have hO := Ob.new w o
  have HB : Hid (Bo (w.alloc (.cells o.cells 33)) p a h r g c x sw ws) := hB.below l0.out
  have H1 : Hid _ := h1
  have H2 : Hid _ := h2
  clear hB h1 h2
  go_enter Tryz.func7, Tryz.ntmps7
  go_upto_region 1 with fail
  have k0 : (w.alloc (.cells o.cells 33)).cell? ⟨w.heap.size, 0, none⟩ = some (.int .i64 15) := by rw [hO.cell 0, ← ho]; rfl
  have k3 : (w.alloc (.cells o.cells 33)).cell? ⟨w.heap.size, 3, none⟩ = some (.int .i64 o.at_) := hO.cell 3
  have k4 : (w.alloc (.cells o.cells 33)).cell? ⟨w.heap.size, 4, none⟩ = some (.int .i64 o.i) := hO.cell 4
  generalize w.alloc (.cells o.cells 33) = v at *
  have c0 := HB.out.c0
  have HO : Hid (Ob v w.heap.size o) := hO
  clear hO
  have bd : Below v.heap.size v v.drew := below_drewN (Below.refl _ _) 1
  have hc := H1.out v.drew (HB.out.below bd)
  go_upto_region 21 with fail
  refine quiet_call 8 mixed (by kernel_rfl) ?_
  simp only [List.take_succ_cons, List.take_zero, List.drop_succ_cons, List.drop_zero]
  repeat (go_big_quiet_step (fail))
  refine wpQuiet_nil ?_
  go_wp2_with fail
  refine hc.mono ?_
  rintro e w1 ⟨rfl, l1⟩
  have b1 : Below v.heap.size v w1 := bd.trans l1
  have hB1 := HB.out.below b1
  have hO1 := HO.out.below b1
  have L1 : Hid (Below v.heap.size v w1) := b1
  clear k0 k3 k4 c0 bd l1 b1 H1 hc HB HO
  go_wp2_with fail
  refine thenQuiet_mk ?_
  repeat (go_big_quiet_step (fail))
  refine wpQuiet_nil ?_
  go_upto_region 22 with fail
  have k3 : w1.cell? ⟨w.heap.size, 3, none⟩ = some (.int .i64 o.at_) := hO1.cell 3
  have k4 : w1.cell? ⟨w.heap.size, 4, none⟩ = some (.int .i64 o.i) := hO1.cell 4
  have c1 := hB1.c1
  have bd : Below w1.heap.size w1 w1.drew := below_drewN (Below.refl _ _) 1
  have hc := H2.out w1.drew (hB1.below bd)
  refine quiet_call 8 mixed (by kernel_rfl) ?_
  simp only [List.take_succ_cons, List.take_zero, List.drop_succ_cons, List.drop_zero]
  repeat (go_big_quiet_step (fail))
  refine wpQuiet_nil ?_
  go_wp2_with fail
  refine hc.mono ?_
  rintro e w2 ⟨rfl, l2⟩
  have L2 : Hid (Below v.heap.size v w2) := L1.out.trans ((bd.trans l2).mono L1.out.size)
  clear k3 k4 c1 bd l2 H2 hc hB1 hO1 L1
  go_wp2_with fail
  refine thenQuiet_mk ?_
  repeat (go_big_quiet_step (fail))
  refine wpQuiet_nil ?_
  go_wp2
  go_ret
  exact ⟨by simp, l0.out.trans (L2.out.mono l0.out.size)⟩

set_option maxHeartbeats 4000000 in
theorem step16_core (V : Int) (d : Bool) (o : Opg) (ho : o.k = 16)
    (h1 : ∀ w1, Bo w1 p a h r g c x sw ws → Calls Tryz.prog 34 #[.pointer (some ⟨a, 0, none⟩), .int .i64 o.at_, .int .i64 o.i] w1 fun e w' => e = .returned (.tuple #[.int .u64 V, .bool d]) ∧ Below w1.heap.size w1 w')
    (h2 : ∀ w1, Bo w1 p a h r g c x sw ws → Calls Tryz.prog 35 #[.pointer (some ⟨r, 0, none⟩), .int .i64 o.at_, .int .i64 o.i] w1 fun e w' => e = .returned (.tuple #[.int .u64 V, .bool d]) ∧ Below w1.heap.size w1 w')
    (w : World) (hB : Bo w p a h r g c x sw ws) :
    Calls Tryz.prog 7 #[.pointer (some ⟨p, 0, none⟩), o.val] w fun e w' => e = .returned (.bool true) ∧ Below w.heap.size w w' := by
  have l0 : Hid (Below w.heap.size w (w.alloc (.cells o.cells 33))) := Below.alloc (Below.refl _ _) (Nat.le_refl _) _
  have hO := Ob.new w o
  have HB : Hid (Bo (w.alloc (.cells o.cells 33)) p a h r g c x sw ws) := hB.below l0.out
  have H1 : Hid _ := h1
  have H2 : Hid _ := h2
  clear hB h1 h2
  go_enter Tryz.func7, Tryz.ntmps7
  go_upto_region 1 with fail
  have k0 : (w.alloc (.cells o.cells 33)).cell? ⟨w.heap.size, 0, none⟩ = some (.int .i64 16) := by rw [hO.cell 0, ← ho]; rfl
  have k3 : (w.alloc (.cells o.cells 33)).cell? ⟨w.heap.size, 3, none⟩ = some (.int .i64 o.at_) := hO.cell 3
  have k4 : (w.alloc (.cells o.cells 33)).cell? ⟨w.heap.size, 4, none⟩ = some (.int .i64 o.i) := hO.cell 4
  generalize w.alloc (.cells o.cells 33) = v at *
  have c0 := HB.out.c0
  have HO : Hid (Ob v w.heap.size o) := hO
  clear hO
  have bd : Below v.heap.size v v.drew := below_drewN (Below.refl _ _) 1
  have hc := H1.out v.drew (HB.out.below bd)
  go_upto_region 25 with fail
  refine quiet_call 8 mixed (by kernel_rfl) ?_
  simp only [List.take_succ_cons, List.take_zero, List.drop_succ_cons, List.drop_zero]
  repeat (go_big_quiet_step (fail))
  refine wpQuiet_nil ?_
  go_wp2_with fail
  refine hc.mono ?_
  rintro e w1 ⟨rfl, l1⟩
  have b1 : Below v.heap.size v w1 := bd.trans l1
  have hB1 := HB.out.below b1
  have hO1 := HO.out.below b1
  have L1 : Hid (Below v.heap.size v w1) := b1
  clear k0 k3 k4 c0 bd l1 b1 H1 hc HB HO
  go_wp2_with fail
  refine thenQuiet_mk ?_
  repeat (go_big_quiet_step (fail))
  refine wpQuiet_nil ?_
  go_upto_region 26 with fail
  have k3 : w1.cell? ⟨w.heap.size, 3, none⟩ = some (.int .i64 o.at_) := hO1.cell 3
  have k4 : w1.cell? ⟨w.heap.size, 4, none⟩ = some (.int .i64 o.i) := hO1.cell 4
  have c1 := hB1.c1
  have bd : Below w1.heap.size w1 w1.drew := below_drewN (Below.refl _ _) 1
  have hc := H2.out w1.drew (hB1.below bd)
  refine quiet_call 8 mixed (by kernel_rfl) ?_
  simp only [List.take_succ_cons, List.take_zero, List.drop_succ_cons, List.drop_zero]
  repeat (go_big_quiet_step (fail))
  refine wpQuiet_nil ?_
  go_wp2_with fail
  refine hc.mono ?_
  rintro e w2 ⟨rfl, l2⟩
  have L2 : Hid (Below v.heap.size v w2) := L1.out.trans ((bd.trans l2).mono L1.out.size)
  clear k3 k4 c1 bd l2 H2 hc hB1 hO1 L1
  go_wp2_with fail
  refine thenQuiet_mk ?_
  repeat (go_big_quiet_step (fail))
  refine wpQuiet_nil ?_
  go_wp2
  go_ret
  exact ⟨by simp, l0.out.trans (L2.out.mono l0.out.size)⟩

end

end Go.Proofs.YtbdkcelggffneaaGreatDoor

/-
  The two arenas side by side: Ptr and Raw, any arena.
-/
set_option linter.unusedVariables false
set_option maxRecDepth 20000
namespace Go.Proofs.YtbdkcelggffneaaGreatDoor
open Go.RowKit Go.Shelf

section
variable (p a h r : Nat) (g : Nat → Nat) (c : Cfg) (x : Tps) (sw : Bool) (ws : Nat → Int)

theorem ptr_no (i j : Int) (hno : ¬ (At c x ws i ∧ 0 ≤ j ∧ j < ptOf (wat c ws i))) (w : World) (hA : Ar w a h c x sw ws) (hL : Laid w) :
    Calls Tryz.prog 32 #[.pointer (some ⟨a, 0, none⟩), .int .i64 i, .int .i64 j] w fun e w' => e = .returned (.tuple #[.int .i64 0, .bool false]) ∧ Below w.heap.size w w' := by
  by_cases hat : At c x ws i
  · have hp := pt_in (wat c ws i)
    refine ptr_out a i j (ptOf (wat c ws i)).toNat (fun hh => hno ⟨hat, hh.1, by omega⟩) w ?_
    refine (ptrs_yes a h c x sw ws i _ rfl hat.1 hat.2.1 hat.2.2 w hA hL).mono ?_
    rintro e w' ⟨⟨ad, rfl, -⟩, l⟩
    exact ⟨⟨ad, rfl⟩, l⟩
  · refine ptr_out a i j 0 (fun hh => by have := hh.1; have := hh.2; simp at this; omega) w ?_
    refine (ptrs_not a h c x sw ws i hat w hA hL).mono ?_
    rintro e w' ⟨rfl, l⟩
    exact ⟨⟨none, rfl⟩, l⟩

theorem raw_no (i j : Int) (hno : ¬ (At c x ws i ∧ 0 ≤ j ∧ j < rwOf (wat c ws i))) (w : World) (hA : Ar w a h c x sw ws) (hL : Laid w) :
    Calls Tryz.prog 34 #[.pointer (some ⟨a, 0, none⟩), .int .i64 i, .int .i64 j] w fun e w' => e = .returned (.tuple #[.int .u64 0, .bool false]) ∧ Below w.heap.size w w' := by
  by_cases hat : At c x ws i
  · have hp := rw_in (wat c ws i)
    refine raw_out a i j (rwOf (wat c ws i)).toNat (rwOf (wat c ws i)).toNat (fun hh => hno ⟨hat, hh.1, by omega⟩) w ?_
    refine (raws_yes a h c x sw ws i _ rfl hat.1 hat.2.1 hat.2.2 w hA hL).mono ?_
    rintro e w' ⟨⟨ad, rfl, -⟩, l⟩
    exact ⟨⟨ad, rfl⟩, l⟩
  · refine raw_out a i j 0 0 (fun hh => by have := hh.1; have := hh.2; simp at this; omega) w ?_
    refine (raws_not a h c x sw ws i hat w hA hL).mono ?_
    rintro e w' ⟨rfl, l⟩
    exact ⟨⟨none, rfl⟩, l⟩

theorem ptr_far (i : Int) (j : Nat) (hat : At c x ws i) (hj : (j : Int) < ptOf (wat c ws i)) (hv : c.words ≤ wat c ws (i + 2 + j)) (w : World) (hA : Ar w a h c x sw ws) (hL : Laid w) :
    Calls Tryz.prog 32 #[.pointer (some ⟨a, 0, none⟩), .int .i64 i, .int .i64 j] w fun e w' => e = .returned (.tuple #[.int .i64 0, .bool false]) ∧ Below w.heap.size w w' := by
  obtain ⟨hS0, ht, hs⟩ := hat
  have hpos := spc_pos hA.ok (a := i) hS0
  have hw := hA.words
  have hz := hs.2
  have hsub := hA.sub_in (spc c i)
  have hr := rw_in (wat c ws i)
  unfold osz at hz
  have hN : (c.words.toNat : Int) = c.words := Int.toNat_of_nonneg (by omega)
  refine ptr_wild a h (i.toNat + 2) (ptOf (wat c ws i)).toNat c.words.toNat j i _ (by omega) (hA.wat_wd _).1 (by omega) (by omega) w hA.own.lt hA.row.lt hA.cell14 (hA.cellW (i + 2 + j) (by omega) (by omega) (i.toNat + 2 + j) (by omega)) ?_
  refine (ptrs_yes a h c x sw ws i _ rfl hS0 ht hs w hA hL).mono ?_
  rintro e w' ⟨⟨ad, rfl, had⟩, l⟩
  exact ⟨by rw [had (by omega)], l⟩

theorem step15_any (o : Opg) (ho : o.k = 15) (w : World) (hB : Bo w p a h r g c x sw ws) :
    Calls Tryz.prog 7 #[.pointer (some ⟨p, 0, none⟩), o.val] w fun e w' => e = .returned (.bool true) ∧ Below w.heap.size w w' := by
  by_cases hin : At c x ws o.at_ ∧ 0 ≤ o.i ∧ o.i < ptOf (wat c ws o.at_)
  · obtain ⟨j, hj⟩ : ∃ j : Nat, o.i = j := ⟨o.i.toNat, by omega⟩
    by_cases hv : wat c ws (o.at_ + 2 + o.i) < c.words
    · refine step15_core p a h r g c x sw ws _ true o ho (fun w1 hw => ?_) (fun w1 hw => rptr_yes r g c x sw ws o.at_ o.i hin.1 hin.2.1 hin.2.2 hv hw.ar.wat_wd w1 hw.ra) w hB
      have := ptr_yes a h c x sw ws o.at_ _ j rfl hin.1.1 hin.1.2.1 hin.1.2.2 (by rw [← hj]; exact hin.2.2) (by rw [← hj]; exact hv) w1 hw.ar hw.la
      rw [← hj] at this
      exact this
    · refine step15_core p a h r g c x sw ws 0 false o ho (fun w1 hw => ?_) (fun w1 hw => rptr_wild r g c x sw ws o.at_ o.i hin.1 hin.2.1 hin.2.2 (by omega) hw.ar.wat_wd w1 hw.ra) w hB
      have := ptr_far a h c x sw ws o.at_ j hin.1 (by rw [← hj]; exact hin.2.2) (by rw [← hj]; omega) w1 hw.ar hw.la
      rw [← hj] at this
      exact this
  · exact step15_core p a h r g c x sw ws 0 false o ho (fun w1 hw => ptr_no a h c x sw ws o.at_ o.i hin w1 hw.ar hw.la) (fun w1 hw => rptr_no r g c x sw ws o.at_ o.i hin (hw.ar.wat_wd _) w1 hw.ra) w hB

theorem step16_any (o : Opg) (ho : o.k = 16) (w : World) (hB : Bo w p a h r g c x sw ws) :
    Calls Tryz.prog 7 #[.pointer (some ⟨p, 0, none⟩), o.val] w fun e w' => e = .returned (.bool true) ∧ Below w.heap.size w w' := by
  by_cases hin : At c x ws o.at_ ∧ 0 ≤ o.i ∧ o.i < rwOf (wat c ws o.at_)
  · obtain ⟨j, hj⟩ : ∃ j : Nat, o.i = j := ⟨o.i.toNat, by omega⟩
    refine step16_core p a h r g c x sw ws _ true o ho (fun w1 hw => ?_) (fun w1 hw => rraw_yes r g c x sw ws o.at_ o.i hin.1 hin.2.1 hin.2.2 hw.ar.wat_wd w1 hw.ra) w hB
    have := raw_yes a h c x sw ws o.at_ _ j rfl hin.1.1 hin.1.2.1 hin.1.2.2 (by rw [← hj]; exact hin.2.2) w1 hw.ar hw.la
    rw [← hj] at this
    exact this
  · exact step16_core p a h r g c x sw ws 0 false o ho (fun w1 hw => raw_no a h c x sw ws o.at_ o.i hin w1 hw.ar hw.la) (fun w1 hw => rraw_no r g c x sw ws o.at_ o.i hin (hw.ar.wat_wd _) w1 hw.ra) w hB
end

end Go.Proofs.YtbdkcelggffneaaGreatDoor

/-
  The program's arena: SetRaw and SetPtr where there is no such field.
-/
set_option linter.unusedVariables false
set_option maxRecDepth 20000
namespace Go.Proofs.YtbdkcelggffneaaGreatDoor
open Go.RowKit Go.Shelf

section
variable (a h : Nat) (c : Cfg) (x : Tps) (sw : Bool) (ws : Nat → Int)

theorem setRaw_no (i j v : Int) (hno : ¬ (At c x ws i ∧ (0 ≤ j ∧ j < rwOf (wat c ws i)))) (w : World) (hA : Ar w a h c x sw ws) (hL : Laid w) :
    Calls Tryz.prog 68 #[.pointer (some ⟨a, 0, none⟩), .int .i64 i, .int .i64 j, .int .u64 v] w fun e w' => e = .returned (.bool false) ∧ Below w.heap.size w w' := by
  by_cases hat : At c x ws i
  · exact setRaw_out a h c x sw ws i _ j v rfl hat.1 hat.2.1 hat.2.2 (fun hh => hno ⟨hat, hh⟩) w hA hL
  · refine setRaw_core a i j v (.slice none 0 0) _ w (fun w1 => Below w.heap.size w w1) (raws_not a h c x sw ws i hat w hA hL) ?_
    intro w1 l
    refine (set_out none 0 0 j v (by omega) w1).mono ?_
    rintro e w' ⟨rfl, rfl⟩
    exact ⟨false, rfl, rfl, l⟩

theorem setPtr_no (i j t : Int) (ht0 : 0 ≤ t) (ht1 : t < c.words) (hno : ¬ (At c x ws i ∧ (0 ≤ j ∧ j < ptOf (wat c ws i)))) (w : World) (hA : Ar w a h c x sw ws) (hL : Laid w) :
    Calls Tryz.prog 66 #[.pointer (some ⟨a, 0, none⟩), .int .i64 i, .int .i64 j, .int .i64 t] w fun e w' => e = .returned (.bool false) ∧ Below w.heap.size w w' := by
  by_cases hat : At c x ws i
  · exact setPtr_out a h c x sw ws i _ t j ht0 ht1 rfl hat.1 hat.2.1 hat.2.2 (fun hh => hno ⟨hat, hh⟩) w hA hL
  · have hw := hA.words
    refine setPtr_core a h c.words.toNat i j t _ w ht0 (by omega) (by omega) hA.cell14 (fun ad => .slice ad 0 0) (fun ad w1 => Below w.heap.size w w1) ?_ ?_
    · refine (ptrs_not a h c x sw ws i hat w hA hL).mono ?_
      rintro e w' ⟨rfl, l⟩
      exact ⟨none, rfl, l⟩
    · intro ad w1 l
      refine (set_out ad 0 0 j t (by omega) w1).mono ?_
      rintro e w' ⟨rfl, rfl⟩
      exact ⟨false, rfl, rfl, l⟩

set_option maxHeartbeats 1000000 in
theorem setPtr_far (i j t : Int) (ht : ¬ (0 ≤ t ∧ t < c.words)) (w : World) (hA : Ar w a h c x sw ws) :
    Calls Tryz.prog 66 #[.pointer (some ⟨a, 0, none⟩), .int .i64 i, .int .i64 j, .int .i64 t] w fun e w' => e = .returned (.bool false) ∧ Below w.heap.size w w' := by
  have k := hA.cell14
  have hw := hA.words
  have hd : decide (0 ≤ t ∧ t < (c.words.toNat : Int)) = false := decide_eq_false (fun hh => ht ⟨hh.1, by omega⟩)
  have Hh : Hid (Calls Tryz.prog 72 #[.slice (some ⟨h, 0, none⟩) c.words.toNat c.words.toNat, .int .i64 t] w fun e w' => e = .returned (.bool false) ∧ w = w') := (has_any _ _ _ _ w).mono (fun e w' ⟨h1, h2⟩ => ⟨by rw [h1, hd], h2⟩)
  clear hA hd ht hw
  generalize c.words.toNat = N at *
  go_enter Tryz.func66, Tryz.ntmps66
  go_wp2_with fail
  refine Hh.out.mono ?_
  rintro e w1 ⟨rfl, rfl⟩
  clear Hh k
  go_wp2
  go_ret
  exact ⟨rfl, Below.refl _ _⟩
end

end Go.Proofs.YtbdkcelggffneaaGreatDoor

