/-
  The two arenas side by side: Head.
-/
import Derived.Test.YtbdkcelggffneaaGreatDoorB32
set_option linter.unusedVariables false
set_option maxRecDepth 20000
namespace Go.Proofs.YtbdkcelggffneaaGreatDoor
open Go.RowKit Go.Shelf

theorem set_at {w : World} {X : Nat} {cs : Array Value} {t : TypeId} (h : w.heap[X]? = some (.cells cs t)) (j : Nat) (u : Value) : (w.setCell ⟨X, j, none⟩ u).heap[X]? = some (.cells (cs.setIfInBounds j u) t) := by
  rw [setCell_eq_setRow _ _ _ _ _ _ _ h]
  exact setRow_heap _ _ _ _ _ _ h

theorem below_setC {B : Nat} {w w' : World} (l : Below B w w') {X : Nat} (hX : B ≤ X) (j : Nat) (u : Value) : Below B w (w'.setCell ⟨X, j, none⟩ u) :=
  ⟨l.os, l.tape, l.output, by have := l.size; simpa using this, fun k hk => (Below.heap_setCell _ _ _ _ (Nat.ne_of_lt (Nat.lt_of_lt_of_le hk hX))).trans (l.block k hk)⟩

theorem Box.of_at {w : World} {X : Nat} {t : TypeId} {c0 c1 c2 c3 c4 c5 c6 : Value} (h : w.heap[X]? = some (.cells #[c0, c1, c2, c3, c4, c5, c6] t)) : Box w X c0 c1 c2 c3 c4 c5 c6 := by
  have hc := fun j => cell_of_row _ _ j _ _ _ h
  have hf : ∀ j, w.frozen? ⟨X, j, none⟩ = false := fun j => by unfold World.frozen?; simp only [h]; simp
  exact ⟨hc 0, hc 1, hc 2, hc 3, hc 4, hc 5, hc 6, hf 0, hf 1, hf 2, hf 3, hf 4, hf 5, hf 6⟩

theorem seven_box {w : World} {X : Nat} {t : TypeId} {y0 y1 y2 y3 y4 y5 y6 : Value} (c0 c1 c2 c3 c4 c5 c6 : Value) (h : w.heap[X]? = some (.cells #[y0, y1, y2, y3, y4, y5, y6] t)) : Box (((((((w.setCell ⟨X, 0, none⟩ c0).setCell ⟨X, 1, none⟩ c1).setCell ⟨X, 2, none⟩ c2).setCell ⟨X, 3, none⟩ c3).setCell ⟨X, 4, none⟩ c4).setCell ⟨X, 5, none⟩ c5).setCell ⟨X, 6, none⟩ c6) X c0 c1 c2 c3 c4 c5 c6 := by
  have h7 := set_at (set_at (set_at (set_at (set_at (set_at (set_at h 0 c0) 1 c1) 2 c2) 3 c3) 4 c4) 5 c5) 6 c6
  exact Box.of_at (t := t) (h7.trans (by rfl))

theorem seven_below {B : Nat} {v w : World} {X : Nat} (c0 c1 c2 c3 c4 c5 c6 : Value) (l : Below B v w) (hX : B ≤ X) : Below B v (((((((w.setCell ⟨X, 0, none⟩ c0).setCell ⟨X, 1, none⟩ c1).setCell ⟨X, 2, none⟩ c2).setCell ⟨X, 3, none⟩ c3).setCell ⟨X, 4, none⟩ c4).setCell ⟨X, 5, none⟩ c5).setCell ⟨X, 6, none⟩ c6) :=
  below_setC (below_setC (below_setC (below_setC (below_setC (below_setC (below_setC l hX 0 c0) hX 1 c1) hX 2 c2) hX 3 c3) hX 4 c4) hX 5 c5) hX 6 c6

theorem box_over {v w1 : World} {c0 c1 c2 c3 c4 c5 c6 : Value} {t : TypeId} (l : Below (v.alloc (.cells #[c0, c1, c2, c3, c4, c5, c6] t)).drew.heap.size (v.alloc (.cells #[c0, c1, c2, c3, c4, c5, c6] t)).drew w1) : Hid (w1.heap[v.heap.size]? = some (.cells #[c0, c1, c2, c3, c4, c5, c6] t)) ∧ Box w1 v.heap.size c0 c1 c2 c3 c4 c5 c6 ∧ Below v.heap.size v w1 := by
  have b0 : Below v.heap.size v (v.alloc (.cells #[c0, c1, c2, c3, c4, c5, c6] t)) := Below.alloc (Below.refl _ _) (Nat.le_refl _) _
  have b1 : Below v.heap.size v (v.alloc (.cells #[c0, c1, c2, c3, c4, c5, c6] t)).drew := below_drewN b0 1
  have x0 := heap_alloc_new v (.cells #[c0, c1, c2, c3, c4, c5, c6] t)
  have hlt : v.heap.size < (v.alloc (.cells #[c0, c1, c2, c3, c4, c5, c6] t)).heap.size := (Array.getElem?_eq_some_iff.1 x0).1
  have h1 := (l.block v.heap.size hlt).trans x0
  exact ⟨h1, Box.of_at h1, b1.trans (l.mono b1.size)⟩

section
variable (p a h r : Nat) (g : Nat → Nat) (c : Cfg) (x : Tps) (sw : Bool) (ws : Nat → Int)

set_option maxHeartbeats 4000000 in
theorem step14_core (s K P R A T : Int) (H d : Bool) (o : Opg) (ho : o.k = 14)
    (h1 : ∀ w1, Bo w1 p a h r g c x sw ws → Calls Tryz.prog 29 #[.pointer (some ⟨a, 0, none⟩), .int .i64 o.at_] w1 fun e w' => e = .returned (.tuple #[hv s K P R A T H, .bool d]) ∧ Below w1.heap.size w1 w')
    (h2 : ∀ w1, Bo w1 p a h r g c x sw ws → Calls Tryz.prog 30 #[.pointer (some ⟨r, 0, none⟩), .int .i64 o.at_] w1 fun e w' => e = .returned (.tuple #[hv s K P R A T H, .bool d]) ∧ Below w1.heap.size w1 w')
    (w : World) (hB : Bo w p a h r g c x sw ws) :
    Calls Tryz.prog 7 #[.pointer (some ⟨p, 0, none⟩), o.val] w fun e w' => e = .returned (.bool true) ∧ Below w.heap.size w w' := by
  have l0 : Hid (Below w.heap.size w (w.alloc (.cells o.cells 33))) := Below.alloc (Below.refl _ _) (Nat.le_refl _) _
  have hO := Ob.new w o
  have HB : Hid (Bo (w.alloc (.cells o.cells 33)) p a h r g c x sw ws) := hB.below l0.out
  have H1 : Hid (∀ w1, Bo w1 p a h r g c x sw ws → Calls Tryz.prog 29 #[.pointer (some ⟨a, 0, none⟩), .int .i64 o.at_] w1 fun e w' => e = .returned (.tuple #[hv s K P R A T H, .bool d]) ∧ Below w1.heap.size w1 w') := h1
  have H2 : Hid (∀ w1, Bo w1 p a h r g c x sw ws → Calls Tryz.prog 30 #[.pointer (some ⟨r, 0, none⟩), .int .i64 o.at_] w1 fun e w' => e = .returned (.tuple #[hv s K P R A T H, .bool d]) ∧ Below w1.heap.size w1 w') := h2
  clear hB h1 h2
  go_enter Tryz.func7, Tryz.ntmps7
  go_upto_region 1 with fail
  have k0 : (w.alloc (.cells o.cells 33)).cell? ⟨w.heap.size, 0, none⟩ = some (.int .i64 14) := by rw [hO.cell 0, ← ho]; rfl
  have k3 : (w.alloc (.cells o.cells 33)).cell? ⟨w.heap.size, 3, none⟩ = some (.int .i64 o.at_) := hO.cell 3
  generalize w.alloc (.cells o.cells 33) = v at *
  have c0 := HB.out.c0
  have HO : Hid (Ob v w.heap.size o) := hO
  clear hO
  go_upto_region 17 with fail
  have bd : Below v.heap.size v v.drew := below_drewN (Below.refl _ _) 1
  have bd1 : ∀ o', Below v.heap.size v (v.alloc o').drew := fun o' => below_drewN (Below.alloc (Below.refl _ _) (Nat.le_refl _) o') 1
  have k3a : (v.alloc (.cells #[.int .u64 0, .int .i64 0, .int .i64 0, .int .i64 0, .int .i64 0, .int .i64 0, .bool false] 31)).cell? ⟨w.heap.size, 3, none⟩ = some (.int .i64 o.at_) := Lib.cell?_alloc_some _ k3
  have c0a : (v.alloc (.cells #[.int .u64 0, .int .i64 0, .int .i64 0, .int .i64 0, .int .i64 0, .int .i64 0, .bool false] 31)).cell? ⟨p, 0, none⟩ = some (.pointer (some ⟨a, 0, none⟩)) := Lib.cell?_alloc_some _ c0
  go_cut [10, 11] from 140 to 149 (fun v10 v11 wq => ∃ X, v10 = .pointer (some ⟨X, 0, none⟩) ∧ v11 = .bool d ∧ Box wq X (.int .u64 s) (.int .i64 K) (.int .i64 P) (.int .i64 R) (.int .i64 A) (.int .i64 T) (.bool H) ∧ Below v.heap.size v wq)
  case first =>
    go_region_with (go_at_call 29; refine (H1.out _ (by first | exact HB.out.below bd | exact HB.out.below (bd1 _))).mono ?_; rintro e w1 ⟨rfl, l1⟩; (first | (have lb : Below v.heap.size v w1 := bd.trans (l1.mono bd.size)) | (obtain ⟨hz, ⟨y0, y1, y2, y3, y4, y5, y6, f0, f1, f2, f3, f4, f5, f6⟩, lb⟩ := box_over l1)))
    all_goals (go_wp2_with fail; go_meet; first | (have q1 := seven_box (.int .u64 s) (.int .i64 K) (.int .i64 P) (.int .i64 R) (.int .i64 A) (.int .i64 T) (.bool H) hz.out; have q2 := seven_below (.int .u64 s) (.int .i64 K) (.int .i64 P) (.int .i64 R) (.int .i64 A) (.int .i64 T) (.bool H) lb (Nat.le_refl _); exact ⟨_, rfl, rfl, q1, q2⟩) | exact ⟨_, rfl, rfl, Box.new _ _ _ _ _ _ _ _ _, Below.alloc lb lb.size _⟩)
  case rest =>
  obtain ⟨X, rfl, rfl, hX, bb⟩ := hcut
  have hO2 := HO.out.below bb
  have HB2 : Hid (Bo wc p a h r g c x sw ws) := HB.out.below bb
  have HX : Hid (Box wc X (.int .u64 s) (.int .i64 K) (.int .i64 P) (.int .i64 R) (.int .i64 A) (.int .i64 T) (.bool H) ∧ X < wc.heap.size ∧ Below v.heap.size v wc) := ⟨hX, hX.lt, bb⟩
  clear k0 k3 k3a c0 c0a bd bd1 H1 bb HB HO hX
  have k3 : wc.cell? ⟨w.heap.size, 3, none⟩ = some (.int .i64 o.at_) := hO2.cell 3
  have c1 := HB2.out.c1
  clear hO2
  go_upto_region 18 with fail
  have bd : Below wc.heap.size wc wc.drew := below_drewN (Below.refl _ _) 1
  have bd1 : ∀ o', Below wc.heap.size wc (wc.alloc o').drew := fun o' => below_drewN (Below.alloc (Below.refl _ _) (Nat.le_refl _) o') 1
  have k3a : (wc.alloc (.cells #[.int .u64 0, .int .i64 0, .int .i64 0, .int .i64 0, .int .i64 0, .int .i64 0, .bool false] 31)).cell? ⟨w.heap.size, 3, none⟩ = some (.int .i64 o.at_) := Lib.cell?_alloc_some _ k3
  have c1a : (wc.alloc (.cells #[.int .u64 0, .int .i64 0, .int .i64 0, .int .i64 0, .int .i64 0, .int .i64 0, .bool false] 31)).cell? ⟨p, 1, none⟩ = some (.pointer (some ⟨r, 0, none⟩)) := Lib.cell?_alloc_some _ c1
  go_cut [12, 13] from 150 to 159 (fun v12 v13 wq => ∃ Y, v12 = .pointer (some ⟨Y, 0, none⟩) ∧ v13 = .bool d ∧ Box wq Y (.int .u64 s) (.int .i64 K) (.int .i64 P) (.int .i64 R) (.int .i64 A) (.int .i64 T) (.bool H) ∧ Box wq X (.int .u64 s) (.int .i64 K) (.int .i64 P) (.int .i64 R) (.int .i64 A) (.int .i64 T) (.bool H) ∧ Below v.heap.size v wq)
  case first =>
    go_region_with (go_at_call 30; refine (H2.out _ (by first | exact HB2.out.below bd | exact HB2.out.below (bd1 _))).mono ?_; rintro e w1 ⟨rfl, l1⟩; (first | (have lb : Below wc.heap.size wc w1 := bd.trans (l1.mono bd.size)) | (obtain ⟨hz, ⟨y0, y1, y2, y3, y4, y5, y6, f0, f1, f2, f3, f4, f5, f6⟩, lb⟩ := box_over l1)))
    all_goals (go_wp2_with fail; go_meet; first | (have q1 := seven_box (.int .u64 s) (.int .i64 K) (.int .i64 P) (.int .i64 R) (.int .i64 A) (.int .i64 T) (.bool H) hz.out; have q2 := seven_below (.int .u64 s) (.int .i64 K) (.int .i64 P) (.int .i64 R) (.int .i64 A) (.int .i64 T) (.bool H) lb (Nat.le_refl _); exact ⟨_, rfl, rfl, q1, HX.out.1.keep q2 HX.out.2.1, HX.out.2.2.trans (q2.mono HX.out.2.2.size)⟩) | (have q2 := Below.alloc lb lb.size (.cells (hcells s K P R A T H) 31); exact ⟨_, rfl, rfl, Box.new _ _ _ _ _ _ _ _ _, HX.out.1.keep q2 HX.out.2.1, HX.out.2.2.trans (q2.mono HX.out.2.2.size)⟩))
  case rest =>
  obtain ⟨Y, rfl, rfl, hY, hX4, b4⟩ := hcut
  have L4 : Hid (Below v.heap.size v wc) := b4
  clear k3 k3a c1 c1a bd bd1 H2 HB2 HX b4
  go_upto_region 19 with fail
  obtain ⟨x0, x1, x2, x3, x4, x5, x6, -, -, -, -, -, -, -⟩ := hX4
  obtain ⟨y0, y1, y2, y3, y4, y5, y6, -, -, -, -, -, -, -⟩ := hY
  go_wp2_with fail
  refine (sameHead_same s K P R A T H wc).mono ?_
  rintro e w5 ⟨rfl, l5⟩
  clear x0 x1 x2 x3 x4 x5 x6 y0 y1 y2 y3 y4 y5 y6
  have L5 : Hid (Below v.heap.size v w5) := L4.out.trans (l5.mono L4.out.size)
  clear l5 L4
  go_wp2
  go_ret
  exact ⟨rfl, l0.out.trans (L5.out.mono l0.out.size)⟩

theorem step14_any (o : Opg) (ho : o.k = 14) (w : World) (hB : Bo w p a h r g c x sw ws) :
    Calls Tryz.prog 7 #[.pointer (some ⟨p, 0, none⟩), o.val] w fun e w' => e = .returned (.bool true) ∧ Below w.heap.size w w' := by
  by_cases hat : At c x ws o.at_
  · exact step14_core p a h r g c x sw ws _ _ _ _ _ _ _ true o ho (fun w1 hw => head_at a h c x sw ws o.at_ hat w1 hw.ar hw.la) (fun w1 hw => rhead_at r g c x sw ws o.at_ hat (hw.ar.wat_wd _) w1 hw.ra) w hB
  · exact step14_core p a h r g c x sw ws _ _ _ _ _ _ _ false o ho (fun w1 hw => head_not a h c x sw ws o.at_ hat w1 hw.ar hw.la) (fun w1 hw => rhead_nat r g c x sw ws o.at_ hat (hw.ar.wat_wd _) w1 hw.ra) w hB
end

end Go.Proofs.YtbdkcelggffneaaGreatDoor
