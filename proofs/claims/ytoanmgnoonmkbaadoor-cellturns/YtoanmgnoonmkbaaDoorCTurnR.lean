/-
  CellTurns: the document's own answer, and the walk.
-/
import Derived.Test.YtoanmgnoonmkbaaDoorCTurn
import Derived.Test.YtoanmgnoonmkbaaDoorCRefC
set_option linter.unusedVariables false
namespace Go.Proofs.YtoanmgnoonmkbaaDoor
open Go.RowKit

set_option maxHeartbeats 1000000 in
theorem rwith_no (m s k p r a t : Int) (h : Bool) (w : World) :
    Calls Tryd.prog 41 #[.int .u64 m, hv s k p r a t h, .bool false] w fun e w' => e = .returned (.int .u64 m) ∧ Below w.heap.size w w' := by
  have b1 := Below.alloc (Below.refl w.heap.size w) (Nat.le_refl _) (.cells (hcells s k p r a t h) 25)
  go_enter Tryd.func41, Tryd.ntmps41
  go_wp2
  go_ret
  exact ⟨rfl, b1⟩

set_option maxHeartbeats 1000000 in
theorem rwith_yes (m s k p r a t : Int) (h : Bool) (w : World) :
    Calls Tryd.prog 41 #[.int .u64 m, hv s k p r a t h, .bool true] w fun e w' => e = .returned (.int .u64 (trn m k p r a t h)) ∧ Below w.heap.size w w' := by
  have b1 := Below.alloc (Below.refl w.heap.size w) (Nat.le_refl _) (.cells (hcells s k p r a t h) 25)
  have hp := rpack_any s k p r a t h (w.alloc (.cells (hcells s k p r a t h) 25))
  by_cases hf : flt k p r a t = 0
  · rw [trn_ok hf]
    rw [hf, show pck k p r a t h = wrd k p r a t h by unfold pck; rw [if_pos hf]] at hp
    generalize wrd k p r a t h = x at hp ⊢
    clear hf
    go_enter Tryd.func41, Tryd.ntmps41
    go_wp2_with fail
    refine hp.mono ?_
    rintro e w2 ⟨rfl, b2⟩
    have b3 := b1.trans (b2.mono b1.size)
    clear hp b1 b2
    go_wp2
    go_ret
    exact ⟨rfl, b3⟩
  · rw [trn_no hf]
    generalize pck k p r a t h = x, flt k p r a t = f at hp hf
    go_enter Tryd.func41, Tryd.ntmps41
    go_wp2_with fail
    refine hp.mono ?_
    rintro e w2 ⟨rfl, b2⟩
    have b3 := b1.trans (b2.mono b1.size)
    clear hp b1 b2
    go_wp2
    go_ret
    exact ⟨rfl, b3⟩

set_option maxHeartbeats 1000000 in
theorem rwithage_core (m k p r a t z : Int) (h ok : Bool) (x : Int) (w : World)
    (hu : Calls Tryd.prog 17 #[.int .u64 m] w fun e w' => e = .returned (.tuple #[hv 0 k p r a t h, .bool ok]) ∧ Below w.heap.size w w')
    (hw : ∀ w, Calls Tryd.prog 41 #[.int .u64 m, hv 0 k p r x t h, .bool ok] w fun e w' => e = .returned (.int .u64 z) ∧ Below w.heap.size w w') :
    Calls Tryd.prog 24 #[.int .u64 m, .int .i64 x] w fun e w' => e = .returned (.int .u64 z) ∧ Below w.heap.size w w' := by
  go_enter Tryd.func24, Tryd.ntmps24
  go_wp2_with fail
  refine hu.mono ?_
  rintro e w1 ⟨rfl, b1⟩
  have b3 := Below.alloc b1 b1.size (.cells (hcells 0 k p r x t h) 25)
  have hY := Box.new w1 25 (.int .u64 0) (.int .i64 k) (.int .i64 p) (.int .i64 r) (.int .i64 x) (.int .i64 t) (.bool h)
  go_upto_region 3 with fail
  generalize (w1.alloc (.cells (hcells 0 k p r x t h) 25)) = w3 at b3 hY ⊢
  clear hu b1
  obtain ⟨y0, y1, y2, y3, y4, y5, y6, -, -, -, -, -, -, -⟩ := hY
  go_wp2_with fail
  clear y0 y1 y2 y3 y4 y5 y6
  refine (hw _).mono ?_
  rintro e w4 ⟨rfl, b4⟩
  have b5 := b3.trans (b4.mono b3.size)
  clear b3 b4
  go_wp2
  go_ret
  exact ⟨rfl, b5⟩

theorem rwithage_any (m : Int) (hm : Wd m) (x : Int) (w : World) :
    Calls Tryd.prog 24 #[.int .u64 m, .int .i64 x] w fun e w' => e = .returned (.int .u64 (wage m x)) ∧ Below w.heap.size w w' := by
  by_cases h : IsHead m
  · have e : wage m x = trn m (kdOf m) (ptOf m) (rwOf m) x (stOf m) (hdOf m) := by unfold wage; rw [if_pos h]
    rw [e]
    exact rwithage_core m _ _ _ _ _ _ _ _ x w (runpack_yes m hm h w) (rwith_yes m 0 (kdOf m) (ptOf m) (rwOf m) x (stOf m) (hdOf m))
  · have e : wage m x = m := by unfold wage; rw [if_neg h]
    rw [e]
    exact rwithage_core m _ _ _ _ _ _ _ _ x w (runpack_no m hm h w) (rwith_no m 0 0 0 0 x 0 false)

set_option maxHeartbeats 1000000 in
theorem rwithheld_core (m k p r a t z : Int) (h ok : Bool) (x : Bool) (w : World)
    (hu : Calls Tryd.prog 17 #[.int .u64 m] w fun e w' => e = .returned (.tuple #[hv 0 k p r a t h, .bool ok]) ∧ Below w.heap.size w w')
    (hw : ∀ w, Calls Tryd.prog 41 #[.int .u64 m, hv 0 k p r a t x, .bool ok] w fun e w' => e = .returned (.int .u64 z) ∧ Below w.heap.size w w') :
    Calls Tryd.prog 26 #[.int .u64 m, .bool x] w fun e w' => e = .returned (.int .u64 z) ∧ Below w.heap.size w w' := by
  go_enter Tryd.func26, Tryd.ntmps26
  go_wp2_with fail
  refine hu.mono ?_
  rintro e w1 ⟨rfl, b1⟩
  have b3 := Below.alloc b1 b1.size (.cells (hcells 0 k p r a t x) 25)
  have hY := Box.new w1 25 (.int .u64 0) (.int .i64 k) (.int .i64 p) (.int .i64 r) (.int .i64 a) (.int .i64 t) (.bool x)
  go_upto_region 3 with fail
  generalize (w1.alloc (.cells (hcells 0 k p r a t x) 25)) = w3 at b3 hY ⊢
  clear hu b1
  obtain ⟨y0, y1, y2, y3, y4, y5, y6, -, -, -, -, -, -, -⟩ := hY
  go_wp2_with fail
  clear y0 y1 y2 y3 y4 y5 y6
  refine (hw _).mono ?_
  rintro e w4 ⟨rfl, b4⟩
  have b5 := b3.trans (b4.mono b3.size)
  clear b3 b4
  go_wp2
  go_ret
  exact ⟨rfl, b5⟩

theorem rwithheld_any (m : Int) (hm : Wd m) (x : Bool) (w : World) :
    Calls Tryd.prog 26 #[.int .u64 m, .bool x] w fun e w' => e = .returned (.int .u64 (wheld m x)) ∧ Below w.heap.size w w' := by
  by_cases h : IsHead m
  · have e : wheld m x = trn m (kdOf m) (ptOf m) (rwOf m) (agOf m) (stOf m) x := by unfold wheld; rw [if_pos h]
    rw [e]
    exact rwithheld_core m _ _ _ _ _ _ _ _ x w (runpack_yes m hm h w) (rwith_yes m 0 (kdOf m) (ptOf m) (rwOf m) (agOf m) (stOf m) x)
  · have e : wheld m x = m := by unfold wheld; rw [if_neg h]
    rw [e]
    exact rwithheld_core m _ _ _ _ _ _ _ _ x w (runpack_no m hm h w) (rwith_no m 0 0 0 0 0 0 x)

set_option maxHeartbeats 1000000 in
theorem rwithkind_core (m k p r a t z : Int) (h ok : Bool) (x : Int) (w : World)
    (hu : Calls Tryd.prog 17 #[.int .u64 m] w fun e w' => e = .returned (.tuple #[hv 0 k p r a t h, .bool ok]) ∧ Below w.heap.size w w')
    (hw : ∀ w, Calls Tryd.prog 41 #[.int .u64 m, hv 0 x p r a t h, .bool ok] w fun e w' => e = .returned (.int .u64 z) ∧ Below w.heap.size w w') :
    Calls Tryd.prog 28 #[.int .u64 m, .int .i64 x] w fun e w' => e = .returned (.int .u64 z) ∧ Below w.heap.size w w' := by
  go_enter Tryd.func28, Tryd.ntmps28
  go_wp2_with fail
  refine hu.mono ?_
  rintro e w1 ⟨rfl, b1⟩
  have b3 := Below.alloc b1 b1.size (.cells (hcells 0 x p r a t h) 25)
  have hY := Box.new w1 25 (.int .u64 0) (.int .i64 x) (.int .i64 p) (.int .i64 r) (.int .i64 a) (.int .i64 t) (.bool h)
  go_upto_region 3 with fail
  generalize (w1.alloc (.cells (hcells 0 x p r a t h) 25)) = w3 at b3 hY ⊢
  clear hu b1
  obtain ⟨y0, y1, y2, y3, y4, y5, y6, -, -, -, -, -, -, -⟩ := hY
  go_wp2_with fail
  clear y0 y1 y2 y3 y4 y5 y6
  refine (hw _).mono ?_
  rintro e w4 ⟨rfl, b4⟩
  have b5 := b3.trans (b4.mono b3.size)
  clear b3 b4
  go_wp2
  go_ret
  exact ⟨rfl, b5⟩

theorem rwithkind_any (m : Int) (hm : Wd m) (x : Int) (w : World) :
    Calls Tryd.prog 28 #[.int .u64 m, .int .i64 x] w fun e w' => e = .returned (.int .u64 (wkind m x)) ∧ Below w.heap.size w w' := by
  by_cases h : IsHead m
  · have e : wkind m x = trn m x (ptOf m) (rwOf m) (agOf m) (stOf m) (hdOf m) := by unfold wkind; rw [if_pos h]
    rw [e]
    exact rwithkind_core m _ _ _ _ _ _ _ _ x w (runpack_yes m hm h w) (rwith_yes m 0 x (ptOf m) (rwOf m) (agOf m) (stOf m) (hdOf m))
  · have e : wkind m x = m := by unfold wkind; rw [if_neg h]
    rw [e]
    exact rwithkind_core m _ _ _ _ _ _ _ _ x w (runpack_no m hm h w) (rwith_no m 0 x 0 0 0 0 false)

set_option maxHeartbeats 1000000 in
theorem turns_any (m n : Int) (b : Bool) (hm : Wd m) (w : World) (hL : Laid w) :
    Calls Tryd.prog 6 #[.int .u64 m, .int .i64 n, .bool b] w fun e w' => e = .returned (.bool true) ∧ Below w.heap.size w w' := by
  have h1 := withage_any m hm n w hL
  have h2 := rwithage_any m hm n
  have h3 := withheld_any m hm b
  have h4 := rwithheld_any m hm b
  have h5 := withkind_any m hm n
  have h6 := rwithkind_any m hm n
  generalize wage m n = x, wheld m b = y, wkind m n = z at h1 h2 h3 h4 h5 h6
  go_enter Tryd.func6, Tryd.ntmps6
  go_wp2_with fail
  refine h1.mono ?_
  rintro e w1 ⟨rfl, b1⟩
  have hL1 := hL.keep b1
  clear hL h1
  go_wp2_with fail
  refine (h2 _).mono ?_
  rintro e w2 ⟨rfl, b2⟩
  have hL2 := hL1.keep b2
  have c2 := b1.trans (b2.mono b1.size)
  clear hL1 b1 b2
  go_wp2_with fail
  refine (h3 _ hL2).mono ?_
  rintro e w3 ⟨rfl, b3⟩
  have hL3 := hL2.keep b3
  have c3 := c2.trans (b3.mono c2.size)
  clear hL2 c2 b3
  go_wp2_with fail
  refine (h4 _).mono ?_
  rintro e w4 ⟨rfl, b4⟩
  have hL4 := hL3.keep b4
  have c4 := c3.trans (b4.mono c3.size)
  clear hL3 c3 b4
  go_wp2_with fail
  refine (h5 _ hL4).mono ?_
  rintro e w5 ⟨rfl, b5⟩
  have c5 := c4.trans (b5.mono c4.size)
  clear hL4 c4 b5
  go_wp2_with fail
  refine (h6 _).mono ?_
  rintro e w6 ⟨rfl, b6⟩
  have c6 := c5.trans (b6.mono c5.size)
  clear c5 b6
  go_wp2
  go_ret
  exact ⟨by first | rfl | simp, c6⟩

end Go.Proofs.YtoanmgnoonmkbaaDoor
