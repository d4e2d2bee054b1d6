/-
  CellHeads: the walk.
-/
import Derived.Test.YtoanmgnoonmkbaaDoorCRefC
set_option linter.unusedVariables false
namespace Go.Proofs.YtoanmgnoonmkbaaDoor
open Go.RowKit

set_option maxHeartbeats 2000000 in
theorem heads_core (s k p r a t m x e y z : Int) (h : Bool) (k' p' r' a' t' : Int) (hh ok : Bool)
    (hp : ∀ w, Laid w → Calls Tryd.prog 10 #[hv s k p r a t h] w fun en w' => en = .returned (.tuple #[.int .u64 x, .int .i64 e]) ∧ Below w.heap.size w w')
    (hrp : ∀ w, Calls Tryd.prog 16 #[hv s k p r a t h] w fun en w' => en = .returned (.tuple #[.int .u64 x, .int .i64 e]) ∧ Below w.heap.size w w')
    (hu : ∀ w, Laid w → Calls Tryd.prog 9 #[.int .u64 m] w fun en w' => en = .returned (.tuple #[hv 0 k' p' r' a' t' hh, .bool ok]) ∧ Below w.heap.size w w')
    (hru : ∀ w, Calls Tryd.prog 17 #[.int .u64 m] w fun en w' => en = .returned (.tuple #[hv 0 k' p' r' a' t' hh, .bool ok]) ∧ Below w.heap.size w w')
    (hs : ∀ w, Laid w → Calls Tryd.prog 15 #[.int .u64 m] w fun en w' => en = .returned (.int .i64 y) ∧ Below w.heap.size w w')
    (hrs : ∀ w, Calls Tryd.prog 18 #[.int .u64 m] w fun en w' => en = .returned (.int .i64 y) ∧ Below w.heap.size w w')
    (hs2 : ∀ w, Laid w → Calls Tryd.prog 15 #[.int .u64 x] w fun en w' => en = .returned (.int .i64 z) ∧ Below w.heap.size w w')
    (hrs2 : ∀ w, Calls Tryd.prog 18 #[.int .u64 x] w fun en w' => en = .returned (.int .i64 z) ∧ Below w.heap.size w w')
    (w : World) (hL : Laid w) :
    Calls Tryd.prog 4 #[hv s k p r a t h, .int .u64 m] w fun en w' => en = .returned (.bool true) ∧ Below w.heap.size w w' := by
  have hX := Box.new w 25 (.int .u64 s) (.int .i64 k) (.int .i64 p) (.int .i64 r) (.int .i64 a) (.int .i64 t) (.bool h)
  have hb := Below.alloc (Below.refl w.heap.size w) (Nat.le_refl _) (.cells (hcells s k p r a t h) 25)
  have hL1 := hL.alloc (.cells (hcells s k p r a t h) 25)
  have hxlt := hX.lt
  go_enter Tryd.func4, Tryd.ntmps4
  go_wp2_with fail
  refine (hp _ hL1).mono ?_
  rintro en w1 ⟨rfl, b1⟩
  have hX1 := hX.keep b1 hxlt
  have hL2 := hL1.keep b1
  have hb1 := hb.trans (b1.mono hb.size)
  clear hX hb hL1 hxlt b1 hp hL
  go_upto_region 2 with fail
  obtain ⟨x0, x1, x2, x3, x4, x5, x6, -, -, -, -, -, -, -⟩ := hX1
  go_wp2_with fail
  clear x0 x1 x2 x3 x4 x5 x6
  refine (hrp _).mono ?_
  rintro en w2 ⟨rfl, b2⟩
  have hL3 := hL2.keep b2
  have hb2 := hb1.trans (b2.mono hb1.size)
  clear hL2 hb1 b2 hrp
  go_wp2_with fail
  refine (hu _ hL3).mono ?_
  rintro en w3 ⟨rfl, b3⟩
  have hL4 := (hL3.keep b3).alloc (.cells (hcells 0 k' p' r' a' t' hh) 25)
  have hb3 := hb2.trans (b3.mono hb2.size)
  have hb4 := Below.alloc hb3 hb3.size (.cells (hcells 0 k' p' r' a' t' hh) 25)
  have hY := Box.new w3 25 (.int .u64 0) (.int .i64 k') (.int .i64 p') (.int .i64 r') (.int .i64 a') (.int .i64 t') (.bool hh)
  have hylt := hY.lt
  clear hL3 hb2 b3 hb3 hu
  go_upto_region 4 with fail
  generalize (w3.alloc (.cells (hcells 0 k' p' r' a' t' hh) 25)) = w4 at hL4 hb4 hY hylt ⊢
  go_wp2_with fail
  refine (hru _).mono ?_
  rintro en w5 ⟨rfl, b5⟩
  have hY5 := hY.keep b5 hylt
  have hL5 := hL4.keep b5
  have hb5 := hb4.trans (b5.mono hb4.size)
  have hylt5 := hY5.lt
  clear hL4 hb4 hY hylt b5 hru
  go_upto_region 5 with fail
  have hY6 := hY5.keep (Below.alloc (Below.refl _ _) (Nat.le_refl _) (.cells (hcells 0 k' p' r' a' t' hh) 25)) hylt5
  have hZ := Box.new w5 25 (.int .u64 0) (.int .i64 k') (.int .i64 p') (.int .i64 r') (.int .i64 a') (.int .i64 t') (.bool hh)
  have hL6 := hL5.alloc (.cells (hcells 0 k' p' r' a' t' hh) 25)
  have hb6 := Below.alloc hb5 hb5.size (.cells (hcells 0 k' p' r' a' t' hh) 25)
  clear hY5 hL5 hb5 hylt5
  generalize (w5.alloc (.cells (hcells 0 k' p' r' a' t' hh) 25)) = w6 at hL6 hb6 hY6 hZ ⊢
  obtain ⟨y0, y1, y2, y3, y4, y5, y6, -, -, -, -, -, -, -⟩ := hY6
  obtain ⟨z0, z1, z2, z3, z4, z5, z6, -, -, -, -, -, -, -⟩ := hZ
  go_wp2_with fail
  clear y0 y1 y2 y3 y4 y5 y6 z0 z1 z2 z3 z4 z5 z6
  refine (hs _ hL6).mono ?_
  rintro en w7 ⟨rfl, b7⟩
  have hL7 := hL6.keep b7
  have hb7 := hb6.trans (b7.mono hb6.size)
  clear hL6 hb6 b7
  go_wp2_with fail
  refine (hrs _).mono ?_
  rintro en w8 ⟨rfl, b8⟩
  have hL8 := hL7.keep b8
  have hb8 := hb7.trans (b8.mono hb7.size)
  clear hL7 hb7 b8
  go_wp2_with fail
  refine (hs2 _ hL8).mono ?_
  rintro en w9 ⟨rfl, b9⟩
  have hb9 := hb8.trans (b9.mono hb8.size)
  clear hL8 hb8 b9
  go_wp2_with fail
  refine (hrs2 _).mono ?_
  rintro en w10 ⟨rfl, b10⟩
  have hb10 := hb9.trans (b10.mono hb9.size)
  clear hb9 b10
  go_wp2
  go_ret
  exact ⟨by first | rfl | simp, hb10⟩

theorem wrd_wd {k p r a t : Int} {h : Bool} (m : May k p r a t) : Wd (wrd k p r a t h) := by
  obtain ⟨h1, h2, h3, h4, h5, h6, h7, h8, h9, h10, h11, h12⟩ := m
  unfold wrd
  cases h <;> simp <;> omega

theorem pck_wd (k p r a t : Int) (h : Bool) : Wd (pck k p r a t h) := by
  unfold pck
  split
  · rename_i hf
    exact wrd_wd (May.of hf)
  · exact ⟨by decide, by decide⟩

theorem heads_any (s k p r a t m : Int) (h : Bool) (hm : Wd m) (w : World) (hL : Laid w) :
    Calls Tryd.prog 4 #[hv s k p r a t h, .int .u64 m] w fun en w' => en = .returned (.bool true) ∧ Below w.heap.size w w' := by
  by_cases hh : IsHead m
  · exact heads_core s k p r a t m _ _ _ _ h _ _ _ _ _ _ _ (pack_any s k p r a t h) (rpack_any s k p r a t h) (unpack_yes m hm hh) (runpack_yes m hm hh) (size_any m hm) (rsize_any m hm)
      (size_any _ (pck_wd k p r a t h)) (rsize_any _ (pck_wd k p r a t h)) w hL
  · exact heads_core s k p r a t m _ _ _ _ h _ _ _ _ _ _ _ (pack_any s k p r a t h) (rpack_any s k p r a t h) (unpack_no m hm hh) (runpack_no m hm hh) (size_any m hm) (rsize_any m hm)
      (size_any _ (pck_wd k p r a t h)) (rsize_any _ (pck_wd k p r a t h)) w hL

end Go.Proofs.YtoanmgnoonmkbaaDoor
