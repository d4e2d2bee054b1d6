/-
  SetHead of an object that stands.
-/
import Derived.Test.YtbdkcelggffneaaDoorH3
set_option linter.unusedVariables false
namespace Go.Proofs.YtbdkcelggffneaaDoor
open Go.RowKit

set_option maxHeartbeats 2000000 in
theorem setHead_bad (b : Nat) (a s k p r ag t : Int) (h : Bool) (hf : flt k p r ag t ≠ 0) (s' K' P' R' A' T' : Int) (H' : Bool) (sv : Value) (hsv : ∃ ad n m, sv = .slice ad n m) (w : World) (hL : Laid w)
    (ho : ∀ w1, Below w.heap.size w w1 → Calls Tryd.prog 52 #[.pointer (some ⟨b, 0, none⟩), .int .i64 a] w1 fun e w' => e = .returned (.tuple #[ov s' K' P' R' A' T' H' sv, .bool true]) ∧ Below w1.heap.size w1 w') :
    Calls Tryd.prog 37 #[.pointer (some ⟨b, 0, none⟩), .int .i64 a, hv s k p r ag t h] w fun e w' => e = .returned (.bool false) ∧ Below w.heap.size w w' := by
  have b0 : Below w.heap.size w (w.alloc (.cells (hcells s k p r ag t h) 46)) := Below.alloc (Below.refl _ _) (Nat.le_refl _) _
  have hp := pack_any s k p r ag t h _ (hL.keep b0)
  obtain ⟨ad, n, m, rfl⟩ := hsv
  generalize flt k p r ag t = f, pck k p r ag t h = wd at hf hp
  have Ho : Hid (∀ w1, Below w.heap.size w w1 → Calls Tryd.prog 52 #[.pointer (some ⟨b, 0, none⟩), .int .i64 a] w1 fun e w' => e = .returned (.tuple #[ov s' K' P' R' A' T' H' (.slice ad n m), .bool true]) ∧ Below w1.heap.size w1 w') := ho
  clear ho
  go_enter Tryd.func37, Tryd.ntmps37
  go_wp2_with fail
  refine hp.mono ?_
  rintro e w1 ⟨rfl, l1⟩
  have b1 := b0.trans (l1.mono b0.size)
  clear hp b0 l1
  go_wp2_with fail
  refine (Ho.out w1 b1).mono ?_
  rintro e w2 ⟨rfl, l2⟩
  have b2 := b1.trans (l2.mono b1.size)
  have b3 := Below.alloc b2 b2.size (.cells (ocells s' K' P' R' A' T' H' (.slice ad n m)) 105)
  clear b1 l2 b2
  go_wp2
  go_ret
  exact ⟨rfl, b3⟩

set_option maxHeartbeats 2000000 in
theorem setHead_good (b g : Nat) (c : Cfg) (x : Tps) (sw : Bool) (ws : Nat → Int) (q : Nat) (s k p r ag t : Int) (h : Bool) (hs : Wd s) (hf : flt k p r ag t = 0) (s' K' A' T' : Int) (H' : Bool) (sv : Value) (hsv : ∃ ad n m, sv = .slice ad n m) (hq : (q : Int) + 1 < c.words) (w : World) (hA : Ar w b g c x sw ws) (hL : Laid w)
    (ho : ∀ w1, Below w.heap.size w w1 → Calls Tryd.prog 52 #[.pointer (some ⟨b, 0, none⟩), .int .i64 q] w1 fun e w' => e = .returned (.tuple #[ov s' K' p r A' T' H' sv, .bool true]) ∧ Below w1.heap.size w1 w') :
    Calls Tryd.prog 37 #[.pointer (some ⟨b, 0, none⟩), .int .i64 q, hv s k p r ag t h] w fun e w' => e = .returned (.bool true) ∧ Ar w' b g c x sw (upd (upd ws q (wrd k p r ag t h)) (q + 1) s) ∧ Touch [g] w w' := by
  have b0 : Below w.heap.size w (w.alloc (.cells (hcells s k p r ag t h) 46)) := Below.alloc (Below.refl _ _) (Nat.le_refl _) _
  have hp := pack_any s k p r ag t h _ (hL.keep b0)
  have x0 := Box.new w 46 (.int .u64 s) (.int .i64 k) (.int .i64 p) (.int .i64 r) (.int .i64 ag) (.int .i64 t) (.bool h)
  obtain ⟨ad, n, m, rfl⟩ := hsv
  have hwd := wrd_wd (h := h) (May.of hf)
  rw [hf, pck_ok hf] at hp
  generalize wrd k p r ag t h = wd at hp hwd ⊢
  have Ho : Hid (∀ w1, Below w.heap.size w w1 → Calls Tryd.prog 52 #[.pointer (some ⟨b, 0, none⟩), .int .i64 q] w1 fun e w' => e = .returned (.tuple #[ov s' K' p r A' T' H' (.slice ad n m), .bool true]) ∧ Below w1.heap.size w1 w') := ho
  have Hw : Hid (∀ w1, Below w.heap.size w w1 → Calls Tryd.prog 46 #[.pointer (some ⟨b, 0, none⟩), .int .i64 q, .int .u64 wd, .int .u64 s] w1 fun e w' => e = .returned (.tuple #[]) ∧ Ar w' b g c x sw (upd (upd ws q wd) (q + 1) s) ∧ Touch [g] w1 w') := fun w1 l => write_any b g c x sw ws q wd s hwd hs hq w1 (hA.below l)
  clear ho hA hf hq
  go_enter Tryd.func37, Tryd.ntmps37
  go_wp2_with fail
  refine hp.mono ?_
  rintro e w1 ⟨rfl, l1⟩
  have x1 := x0.keep l1 x0.lt
  have b1 := b0.trans (l1.mono b0.size)
  clear hp b0 l1 x0
  go_wp2_with fail
  refine (Ho.out w1 b1).mono ?_
  rintro e w2 ⟨rfl, l2⟩
  have x2 := x1.keep l2 x1.lt
  have b2 := b1.trans (l2.mono b1.size)
  have o3 := Oc.new w2 (ocells s' K' p r A' T' H' (.slice ad n m))
  have b3 := Below.alloc b2 b2.size (.cells (ocells s' K' p r A' T' H' (.slice ad n m)) 105)
  have x3 := x2.keep (Below.alloc (Below.refl _ _) (Nat.le_refl _) (.cells (ocells s' K' p r A' T' H' (.slice ad n m)) 105)) x2.lt
  clear b1 l2 b2 x1 x2
  go_upto_region 3 with fail
  generalize (w2.alloc (.cells (ocells s' K' p r A' T' H' (.slice ad n m)) 105)) = w3 at o3 b3 x3 ⊢
  generalize w2.heap.size = O at o3 ⊢
  have y0 := x3.h0
  have y2 := x3.h2
  have y3 := x3.h3
  have z2 : w3.cell? ⟨O, 2, none⟩ = some (.int .i64 p) := o3.cell 2
  have z3 : w3.cell? ⟨O, 3, none⟩ = some (.int .i64 r) := o3.cell 3
  clear x3 o3
  go_wp2_with fail
  refine (Hw.out w3 b3).mono ?_
  rintro e w4 ⟨rfl, a4, t4⟩
  have HR : Hid (Ar w4 b g c x sw (upd (upd ws q wd) (q + 1) s) ∧ Touch [g] w w4) := ⟨a4, (Touch.of_below b3 _).trans t4⟩
  clear y0 y2 y3 z2 z3 a4 t4 b3
  go_wp2
  go_ret
  exact ⟨rfl, HR.out.1, HR.out.2⟩

end Go.Proofs.YtbdkcelggffneaaDoor
