/-
  desk.slides: a slide is asked for.
-/
import Derived.Test.YtlnfhnahnmblmabDoorN14
set_option linter.unusedVariables false
set_option maxRecDepth 100000
namespace Go.Proofs.YtlnfhnahnmblmabDoor
open Go.RowKit Go.Shelf

/-- A desk between two calls. -/
def DK (W0 w : World) (d b r n : Nat) : Prop := ∃ g h M vs vt L, Dk W0 w d b g r h n M vs vt (sps L) (tps L) L ∧ L.length ≤ 6

theorem DK.below {W0 w w' : World} {d b r n : Nat} (x : DK W0 w d b r n) (l : Below w.heap.size w w') : DK W0 w' d b r n := by
  obtain ⟨g, h, M, vs, vt, L, x, hl⟩ := x
  exact ⟨g, h, M, vs, vt, L, x.below l, hl⟩

theorem below_of_eq {w w' : World} {k : Nat} (h : w.drewN k = w') : Below w.heap.size w w' := by rw [← h]; exact below_drewN (Below.refl _ _) k

section
variable {W0 w : World} {d b g r h n : Nat} {M : Nat → Bool} {vs vt : Value} {xs ys : List Value} {L : List Sr2}
theorem Dk.c0 (x : Dk W0 w d b g r h n M vs vt xs ys L) : w.cell? ⟨d, 0, none⟩ = some (.pointer (some ⟨b, 0, none⟩)) := x.own.cell (i := 0) (by decide)
theorem Dk.c1 (x : Dk W0 w d b g r h n M vs vt xs ys L) : w.cell? ⟨d, 1, none⟩ = some (.pointer (some ⟨r, 0, none⟩)) := x.own.cell (i := 1) (by decide)
theorem Dk.c2 (x : Dk W0 w d b g r h n M vs vt xs ys L) : w.cell? ⟨d, 2, none⟩ = some vs := x.own.cell (i := 2) (by decide)
theorem Dk.c3 (x : Dk W0 w d b g r h n M vs vt xs ys L) : w.cell? ⟨d, 3, none⟩ = some vt := x.own.cell (i := 3) (by decide)
end

set_option maxHeartbeats 4000000 in
theorem dslides8_out (W0 : World) (d b g r h n : Nat) (M : Nat → Bool) (vs vt : Value) (L : List Sr2) (hl : L.length ≤ 6) (A B C : Int) (hno : A < 0 ∨ (n : Int) < B ∨ B < A ∨ C < 0 ∨ 1048576 < C) (w : World) (hD : Dk W0 w d b g r h n M vs vt (sps L) (tps L) L) :
    Calls Tryd.prog 24 #[.pointer (some ⟨d, 0, none⟩), .agg #[.int .i64 8, .int .i64 A, .int .i64 B, .int .i64 C]] w fun e w' => e = .returned (.bool true) ∧ DK W0 w' d b r n := by
  have b0 : Below w.heap.size w (w.alloc (.cells #[.int .i64 8, .int .i64 A, .int .i64 B, .int .i64 C] 30)) := Below.alloc (Below.refl _ _) (Nat.le_refl _) _
  have D0 := hD.below b0
  have HB : Hid _ := b0
  have x0 : (w.alloc (.cells #[.int .i64 8, .int .i64 A, .int .i64 B, .int .i64 C] 30)).cell? ⟨w.heap.size, 0, none⟩ = some (.int .i64 8) := by simp
  have x1 : (w.alloc (.cells #[.int .i64 8, .int .i64 A, .int .i64 B, .int .i64 C] 30)).cell? ⟨w.heap.size, 1, none⟩ = some (.int .i64 A) := by simp
  have x2 : (w.alloc (.cells #[.int .i64 8, .int .i64 A, .int .i64 B, .int .i64 C] 30)).cell? ⟨w.heap.size, 2, none⟩ = some (.int .i64 B) := by simp
  have x3 : (w.alloc (.cells #[.int .i64 8, .int .i64 A, .int .i64 B, .int .i64 C] 30)).cell? ⟨w.heap.size, 3, none⟩ = some (.int .i64 C) := by simp
  have HN : Hid (A < 0 ∨ (n : Int) < B ∨ B < A ∨ C < 0 ∨ 1048576 < C) := hno
  clear hno hD b0
  go_enter Tryd.func24, Tryd.ntmps24
  go_upto_region 2 with fail
  generalize w.alloc (.cells #[.int .i64 8, .int .i64 A, .int .i64 B, .int .i64 C] 30) = w1 at *
  generalize w.heap.size = P at *
  have c0 := D0.c0
  have hc := slide_out b g n M A B C HN.out w1.drew (D0.mp.below (below_drewN (Below.refl _ _) 1))
  have HD : Hid (Dk W0 w1 d b g r h n M vs vt (sps L) (tps L) L) := D0
  clear D0
  refine quiet_call 10 mixed (by kernel_rfl) ?_
  simp only [List.take_succ_cons, List.take_zero, List.drop_succ_cons, List.drop_zero]
  repeat (go_big_quiet_step (fail))
  refine wpQuiet_nil ?_
  go_wp2_with fail
  refine hc.mono ?_
  rintro e w2 ⟨rfl, hw⟩
  have b2 : Below w1.heap.size w1 w2 := below_of_eq (k := 1) hw
  have y1 := (b2.cell (World.block_lt_of_cell? _ _ x1)).trans x1
  have y2 := (b2.cell (World.block_lt_of_cell? _ _ x2)).trans x2
  have y3 := (b2.cell (World.block_lt_of_cell? _ _ x3)).trans x3
  have D2 := HD.out.below b2
  clear hw hc x0 x1 x2 x3 c0 HD b2
  go_wp2_with fail
  refine thenQuiet_mk ?_
  repeat (go_big_quiet_step (fail))
  refine wpQuiet_nil ?_
  go_upto_region 3 with fail
  have c1 := D2.c1
  have hc := rslide_out r h n M A B C HN.out w2.drew (D2.rm.below (below_drewN (Below.refl _ _) 1))
  have HD : Hid (Dk W0 w2 d b g r h n M vs vt (sps L) (tps L) L) := D2
  clear D2
  refine quiet_call 10 mixed (by kernel_rfl) ?_
  simp only [List.take_succ_cons, List.take_zero, List.drop_succ_cons, List.drop_zero]
  repeat (go_big_quiet_step (fail))
  refine wpQuiet_nil ?_
  go_wp2_with fail
  refine hc.mono ?_
  rintro e w3 ⟨rfl, hw⟩
  have HF : Hid (DK W0 w3 d b r n) := ⟨g, h, M, vs, vt, L, HD.out.below (below_of_eq (k := 1) hw), hl⟩
  clear hw hc y1 y2 y3 c1 HD
  go_wp2_with fail
  refine thenQuiet_mk ?_
  repeat (go_big_quiet_step (fail))
  refine wpQuiet_nil ?_
  have hnum := num_any 41 w3
  go_wp2_with fail
  refine hnum.mono ?_
  rintro e w4 ⟨rfl, rfl⟩
  go_wp2
  go_ret
  exact ⟨rfl, HF.out⟩
end Go.Proofs.YtlnfhnahnmblmabDoor
