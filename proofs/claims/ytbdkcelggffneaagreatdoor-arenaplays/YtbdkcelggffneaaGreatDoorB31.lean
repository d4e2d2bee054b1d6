/-
  SetHead where it says no.
-/
import Derived.Test.YtbdkcelggffneaaGreatDoorB30
set_option linter.unusedVariables false
set_option maxRecDepth 20000
namespace Go.Proofs.YtbdkcelggffneaaGreatDoor
open Go.RowKit Go.Shelf

set_option maxHeartbeats 2000000 in
theorem setHead_not (b : Nat) (a s k p r ag t : Int) (h : Bool) (w : World) (hL : Laid w)
    (ho : ∀ w1, Below w.heap.size w w1 → Calls Tryz.prog 78 #[.pointer (some ⟨b, 0, none⟩), .int .i64 a] w1 fun e w' => e = .returned (.tuple #[.agg ozero, .bool false]) ∧ Below w1.heap.size w1 w') :
    Calls Tryz.prog 64 #[.pointer (some ⟨b, 0, none⟩), .int .i64 a, hv s k p r ag t h] w fun e w' => e = .returned (.bool false) ∧ Below w.heap.size w w' := by
  have b0 : Below w.heap.size w (w.alloc (.cells (hcells s k p r ag t h) 31)) := Below.alloc (Below.refl _ _) (Nat.le_refl _) _
  have hp := pack_any s k p r ag t h _ (hL.keep b0)
  generalize flt k p r ag t = f, pck k p r ag t h = wd at hp
  have Ho : Hid (∀ w1, Below w.heap.size w w1 → Calls Tryz.prog 78 #[.pointer (some ⟨b, 0, none⟩), .int .i64 a] w1 fun e w' => e = .returned (.tuple #[.agg ozero, .bool false]) ∧ Below w1.heap.size w1 w') := ho
  clear ho
  go_enter Tryz.func64, Tryz.ntmps64
  go_wp2_with fail
  refine hp.mono ?_
  rintro e w1 ⟨rfl, l1⟩
  have b1 := b0.trans (l1.mono b0.size)
  clear hp b0 l1
  go_wp2_with fail
  refine (Ho.out w1 b1).mono ?_
  rintro e w2 ⟨rfl, l2⟩
  have b2 := b1.trans (l2.mono b1.size)
  have b3 := Below.alloc b2 b2.size (.cells ozero 109)
  clear b1 l2 b2
  go_wp2
  go_ret
  exact ⟨rfl, b3⟩

set_option maxHeartbeats 4000000 in
theorem setHead_other (b : Nat) (a s k p r ag t : Int) (h : Bool) (hf : flt k p r ag t = 0) (s' K' P' R' A' T' : Int) (H' : Bool) (hne : p ≠ P' ∨ r ≠ R') (sv : Value) (hsv : ∃ ad n m, sv = .slice ad n m) (w : World) (hL : Laid w)
    (ho : ∀ w1, Below w.heap.size w w1 → Calls Tryz.prog 78 #[.pointer (some ⟨b, 0, none⟩), .int .i64 a] w1 fun e w' => e = .returned (.tuple #[ov s' K' P' R' A' T' H' sv, .bool true]) ∧ Below w1.heap.size w1 w') :
    Calls Tryz.prog 64 #[.pointer (some ⟨b, 0, none⟩), .int .i64 a, hv s k p r ag t h] w fun e w' => e = .returned (.bool false) ∧ Below w.heap.size w w' := by
  have b0 : Below w.heap.size w (w.alloc (.cells (hcells s k p r ag t h) 31)) := Below.alloc (Below.refl _ _) (Nat.le_refl _) _
  have hp := pack_any s k p r ag t h _ (hL.keep b0)
  obtain ⟨ad, n, m, rfl⟩ := hsv
  rw [hf] at hp
  generalize pck k p r ag t h = wd at hp
  have x0 := Box.new w 31 (.int .u64 s) (.int .i64 k) (.int .i64 p) (.int .i64 r) (.int .i64 ag) (.int .i64 t) (.bool h)
  have Ho : Hid (∀ w1, Below w.heap.size w w1 → Calls Tryz.prog 78 #[.pointer (some ⟨b, 0, none⟩), .int .i64 a] w1 fun e w' => e = .returned (.tuple #[ov s' K' P' R' A' T' H' (.slice ad n m), .bool true]) ∧ Below w1.heap.size w1 w') := ho
  clear ho hf
  go_enter Tryz.func64, Tryz.ntmps64
  go_wp2_with fail
  refine hp.mono ?_
  rintro e w1 ⟨rfl, l1⟩
  have x1 := x0.keep l1 x0.lt
  have b1 := b0.trans (l1.mono b0.size)
  clear hp b0 l1 x0
  go_wp2_with fail
  refine (Ho.out w1 b1).mono ?_
  rintro e w2 ⟨rfl, l2⟩
  have x2 := x1.keep l2 x1.lt
  have b2 := b1.trans (l2.mono b1.size)
  have o3 := Oc.new w2 (ocells s' K' P' R' A' T' H' (.slice ad n m))
  have b3 := Below.alloc b2 b2.size (.cells (ocells s' K' P' R' A' T' H' (.slice ad n m)) 109)
  have x3 := x2.keep (Below.alloc (Below.refl _ _) (Nat.le_refl _) (.cells (ocells s' K' P' R' A' T' H' (.slice ad n m)) 109)) x2.lt
  clear b1 l2 b2 x1 x2
  go_upto_region 3 with fail
  generalize (w2.alloc (.cells (ocells s' K' P' R' A' T' H' (.slice ad n m)) 109)) = w3 at o3 b3 x3 ⊢
  generalize w2.heap.size = O at o3 ⊢
  have y2 := x3.h2
  have y3 := x3.h3
  have z2 : w3.cell? ⟨O, 2, none⟩ = some (.int .i64 P') := o3.cell 2
  have z3 : w3.cell? ⟨O, 3, none⟩ = some (.int .i64 R') := o3.cell 3
  clear x3 o3
  by_cases h1 : p = P'
  · subst h1
    have h2 : r ≠ R' := by simpa using hne
    go_wp2
    go_ret
    exact ⟨rfl, b3⟩
  · go_wp2
    go_ret
    exact ⟨rfl, b3⟩

end Go.Proofs.YtbdkcelggffneaaGreatDoor
