/-
  made, where nothing is put.
-/
import Derived.Test.YtbdkcelggffneaaDoorHM
set_option linter.unusedVariables false
namespace Go.Proofs.YtbdkcelggffneaaDoor
open Go.RowKit Go.Shelf

/-- A step as its cells. -/
abbrev dcells (K S N B C W s k p r a t : Int) (h : Bool) : Array Value := #[.int .i64 K, .int .i64 S, .int .i64 N, .int .i64 B, .int .i64 C, .int .u64 W, .int .u64 s, .int .i64 k, .int .i64 p, .int .i64 r, .int .i64 a, .int .i64 t, .bool h]
abbrev dv (K S N B C W s k p r a t : Int) (h : Bool) : Value := .agg (dcells K S N B C W s k p r a t h)

/-- Block R holds a step. -/
structure Dc (w : World) (R : Nat) (cs : Array Value) : Prop where
  at_ : w.heap[R]? = some (.cells cs 48 (0, 0))

theorem Dc.new (w : World) (cs : Array Value) : Dc (w.alloc (.cells cs 48)) w.heap.size cs := ⟨heap_alloc_new w _⟩
theorem Dc.lt {w : World} {R : Nat} {cs : Array Value} (h : Dc w R cs) : R < w.heap.size := (Array.getElem?_eq_some_iff.1 h.at_).1
theorem Dc.below {w w' : World} {R : Nat} {cs : Array Value} (h : Dc w R cs) (l : Below w.heap.size w w') : Dc w' R cs := ⟨(l.block R h.lt).trans h.at_⟩
theorem Dc.cell {w : World} {R : Nat} {cs : Array Value} (h : Dc w R cs) (j : Nat) : w.cell? ⟨R, j, none⟩ = cs[j]? := cell_of_row _ _ j _ _ _ h.at_

set_option maxHeartbeats 2000000 in
theorem made_no (b g : Nat) (c : Cfg) (x : Tps) (sw : Bool) (ws : Nat → Int) (lv : Value) (hlv : ∃ ad n m, lv = .slice ad n m) (K S N B C W s k p r a t : Int) (h : Bool) (w : World) (hA : Ar w b g c x sw ws)
    (hp : ∀ w1, Below w.heap.size w w1 → Calls Tryd.prog 26 #[.pointer (some ⟨b, 0, none⟩), .int .i64 S, hv s k p r a t h] w1 fun e w' => e = .returned (.tuple #[.int .i64 0, .bool false]) ∧ Below w1.heap.size w1 w') :
    Calls Tryd.prog 18 #[.pointer (some ⟨b, 0, none⟩), lv, dv K S N B C W s k p r a t h] w fun e w' => e = .returned (.tuple #[lv, .bool true]) ∧ Below w.heap.size w w' := by
  obtain ⟨ad, n, m, rfl⟩ := hlv
  have b0 : Below w.heap.size w (w.alloc (.cells (dcells K S N B C W s k p r a t h) 48)) := Below.alloc (Below.refl _ _) (Nat.le_refl _) _
  have d0 := Dc.new w (dcells K S N B C W s k p r a t h)
  have Hp : Hid (∀ w1, Below w.heap.size w w1 → Calls Tryd.prog 26 #[.pointer (some ⟨b, 0, none⟩), .int .i64 S, hv s k p r a t h] w1 fun e w' => e = .returned (.tuple #[.int .i64 0, .bool false]) ∧ Below w1.heap.size w1 w') := hp
  have HA : Hid (Ar w b g c x sw ws) := hA
  clear hp hA
  have ht := top_any b g c x sw ws S _ (HA.out.below b0)
  have k1 : (w.alloc (.cells (dcells K S N B C W s k p r a t h) 48)).cell? ⟨w.heap.size, 1, none⟩ = some (.int .i64 S) := d0.cell 1
  go_enter Tryd.func18, Tryd.ntmps18
  go_wp2_with fail
  refine ht.mono ?_
  rintro e w1 ⟨rfl, l1⟩
  have d1 := d0.below l1
  have b1 := b0.trans (l1.mono b0.size)
  clear ht k1 d0 b0 l1
  have hf := free_any b g c x sw ws S _ (HA.out.below b1)
  have k1 : w1.cell? ⟨w.heap.size, 1, none⟩ = some (.int .i64 S) := d1.cell 1
  go_wp2_with fail
  refine hf.mono ?_
  rintro e w2 ⟨rfl, l2⟩
  have d2 := d1.below l2
  have b2 := b1.trans (l2.mono b1.size)
  clear hf k1 d1 b1 l2
  have k1 : w2.cell? ⟨w.heap.size, 1, none⟩ = some (.int .i64 S) := d2.cell 1
  have k6 : w2.cell? ⟨w.heap.size, 6, none⟩ = some (.int .u64 s) := d2.cell 6
  have k7 : w2.cell? ⟨w.heap.size, 7, none⟩ = some (.int .i64 k) := d2.cell 7
  have k8 : w2.cell? ⟨w.heap.size, 8, none⟩ = some (.int .i64 p) := d2.cell 8
  have k9 : w2.cell? ⟨w.heap.size, 9, none⟩ = some (.int .i64 r) := d2.cell 9
  have k10 : w2.cell? ⟨w.heap.size, 10, none⟩ = some (.int .i64 a) := d2.cell 10
  have k11 : w2.cell? ⟨w.heap.size, 11, none⟩ = some (.int .i64 t) := d2.cell 11
  have k12 : w2.cell? ⟨w.heap.size, 12, none⟩ = some (.bool h) := d2.cell 12
  go_wp2_with fail
  clear k1 k6 k7 k8 k9 k10 k11 k12
  refine (Hp.out w2 b2).mono ?_
  rintro e w3 ⟨rfl, l3⟩
  have d3 := d2.below l3
  have b3 := b2.trans (l3.mono b2.size)
  clear d2 b2 l3
  have ht := top_any b g c x sw ws S _ (HA.out.below b3)
  have k1 : w3.cell? ⟨w.heap.size, 1, none⟩ = some (.int .i64 S) := d3.cell 1
  go_wp2_with fail
  refine ht.mono ?_
  rintro e w4 ⟨rfl, l4⟩
  have d4 := d3.below l4
  have b4 := b3.trans (l4.mono b3.size)
  clear ht k1 d3 b3 l4
  have hf := free_any b g c x sw ws S _ (HA.out.below b4)
  have k1 : w4.cell? ⟨w.heap.size, 1, none⟩ = some (.int .i64 S) := d4.cell 1
  go_wp2_with fail
  refine hf.mono ?_
  rintro e w5 ⟨rfl, l5⟩
  have b5 := b4.trans (l5.mono b4.size)
  clear hf k1 d4 b4 l5
  go_wp2
  go_returns
  exact ⟨rfl, b5⟩

end Go.Proofs.YtbdkcelggffneaaDoor
