/-
  plays: the calls that ask.
-/
import Derived.Test.YtlnfhnahnmblmabDoorN17
set_option linter.unusedVariables false
set_option maxRecDepth 100000
namespace Go.Proofs.YtlnfhnahnmblmabDoor
open Go.RowKit Go.Shelf

set_option maxHeartbeats 4000000 in
theorem plays2 (W0 : World) (d b r n : Nat) (A B C : Int) (w : World) (hD : DK W0 w d b r n) (hL : Laid W0) :
    Calls Tryd.prog 8 #[.pointer (some ⟨d, 0, none⟩), .agg #[.int .i64 2, .int .i64 A, .int .i64 B, .int .i64 C]] w fun e w' => e = .returned (.bool true) ∧ DK W0 w' d b r n := by
  obtain ⟨g, h, M, vs, vt, L, hD, hl⟩ := hD
  have b0 : Below w.heap.size w (w.alloc (.cells #[.int .i64 2, .int .i64 A, .int .i64 B, .int .i64 C] 30)) := Below.alloc (Below.refl _ _) (Nat.le_refl _) _
  have D0 := hD.below b0
  have hgP : g < w.heap.size := hD.mp.row.lt
  have hdP : d < w.heap.size := hD.own.lt
  have x0 : (w.alloc (.cells #[.int .i64 2, .int .i64 A, .int .i64 B, .int .i64 C] 30)).cell? ⟨w.heap.size, 0, none⟩ = some (.int .i64 2) := by simp
  have x1 : (w.alloc (.cells #[.int .i64 2, .int .i64 A, .int .i64 B, .int .i64 C] 30)).cell? ⟨w.heap.size, 1, none⟩ = some (.int .i64 A) := by simp
  have x2 : (w.alloc (.cells #[.int .i64 2, .int .i64 A, .int .i64 B, .int .i64 C] 30)).cell? ⟨w.heap.size, 2, none⟩ = some (.int .i64 B) := by simp
  have hLd := D0.laid hL
  clear hD b0
  go_enter Tryd.func8, Tryd.ntmps8
  go_upto_region 7 with fail
  generalize w.alloc (.cells #[.int .i64 2, .int .i64 A, .int .i64 B, .int .i64 C] 30) = w1 at *
  generalize w.heap.size = P at *
  have c0 := D0.c0
  have bn := below_drewN (Below.refl w1.heap.size w1) 1
  have hc := has_any b g n M A (w1.drewN 1) (D0.below bn).mp
  have HD : Hid (Dk W0 w1 d b g r h n M vs vt (sps L) (tps L) L ∧ Below w1.heap.size w1 (w1.drewN 1)) := ⟨D0, bn⟩
  clear D0 bn
  refine quiet_call 6 mixed (by kernel_rfl) ?_
  simp only [List.take_succ_cons, List.take_zero, List.drop_succ_cons, List.drop_zero]
  repeat (go_big_quiet_step (fail))
  refine wpQuiet_nil ?_
  go_wp2_with fail
  refine hc.mono ?_
  rintro e w2 ⟨rfl, hb2⟩
  have bb : Below w1.heap.size w1 w2 := HD.out.2.trans ((below_of_eq (k := 0) hb2).mono HD.out.2.size)
  have D2 := HD.out.1.below bb
  have z1 : ∀ p : Bel w2, p.v.cell? ⟨P, 1, none⟩ = some (.int .i64 A) := fun p => (p.h.cell (World.block_lt_of_cell? _ _ ((bb.cell (World.block_lt_of_cell? _ _ x1)).trans x1))).trans ((bb.cell (World.block_lt_of_cell? _ _ x1)).trans x1)
  have z2 : ∀ p : Bel w2, p.v.cell? ⟨P, 2, none⟩ = some (.int .i64 B) := fun p => (p.h.cell (World.block_lt_of_cell? _ _ ((bb.cell (World.block_lt_of_cell? _ _ x2)).trans x2))).trans ((bb.cell (World.block_lt_of_cell? _ _ x2)).trans x2)
  have z3 : ∀ p : Bel w2, p.v.cell? ⟨d, 1, none⟩ = some (.pointer (some ⟨r, 0, none⟩)) := fun p => (D2.below p.h).c1
  have HS : Hid (∀ p : Bel w2, Calls Tryd.prog 18 #[.pointer (some ⟨r, 0, none⟩), .int .i64 A] p.v fun e w' => e = .returned (.bool (hasB M A)) ∧ Below p.v.heap.size p.v w') := fun p => (rhas_any r h n M A p.v (D2.below p.h).rm).mono (fun _ _ ⟨h1, h2⟩ => ⟨h1, by rw [← h2]; exact Below.refl _ _⟩)
  have HF : Hid (∀ w', Below w2.heap.size w2 w' → DK W0 w' d b r n) := fun w' l => ⟨g, h, M, vs, vt, L, D2.below l, hl⟩
  clear hc hb2 bb x0 x1 x2 c0 HD D2 hLd hgP hdP
  haveI hinh : Inhabited (Bel w2) := ⟨⟨w2, Below.refl _ _⟩⟩
  go_wp2_with fail
  refine thenQuiet_mk ?_
  repeat (go_big_quiet_step (fail))
  refine wpQuiet_nil ?_
  go_upto_region 8 with fail
  refine region_below mixed (by kernel_rfl) ?_
  repeat (go_big_quiet_step (first | (go_at_call 18; exact calls_bel (HS.out _))))
  refine wpQuiet_nil ?_
  rintro w6 ⟨⟨w6, b8⟩, rfl⟩
  have HG : Hid (DK W0 w6 d b r n) := HF.out _ b8
  clear z1 z2 z3 HS HF
  go_wp2
  go_ret
  exact ⟨by simp, HG.out⟩

set_option maxHeartbeats 4000000 in
theorem plays3 (W0 : World) (d b r n : Nat) (A B C : Int) (hA : A ≤ 9223372036854775807) (w : World) (hD : DK W0 w d b r n) (hL : Laid W0) :
    Calls Tryd.prog 8 #[.pointer (some ⟨d, 0, none⟩), .agg #[.int .i64 3, .int .i64 A, .int .i64 B, .int .i64 C]] w fun e w' => e = .returned (.bool true) ∧ DK W0 w' d b r n := by
  obtain ⟨g, h, M, vs, vt, L, hD, hl⟩ := hD
  have b0 : Below w.heap.size w (w.alloc (.cells #[.int .i64 3, .int .i64 A, .int .i64 B, .int .i64 C] 30)) := Below.alloc (Below.refl _ _) (Nat.le_refl _) _
  have D0 := hD.below b0
  have hgP : g < w.heap.size := hD.mp.row.lt
  have hdP : d < w.heap.size := hD.own.lt
  have x0 : (w.alloc (.cells #[.int .i64 3, .int .i64 A, .int .i64 B, .int .i64 C] 30)).cell? ⟨w.heap.size, 0, none⟩ = some (.int .i64 3) := by simp
  have x1 : (w.alloc (.cells #[.int .i64 3, .int .i64 A, .int .i64 B, .int .i64 C] 30)).cell? ⟨w.heap.size, 1, none⟩ = some (.int .i64 A) := by simp
  have x2 : (w.alloc (.cells #[.int .i64 3, .int .i64 A, .int .i64 B, .int .i64 C] 30)).cell? ⟨w.heap.size, 2, none⟩ = some (.int .i64 B) := by simp
  have hLd := D0.laid hL
  clear hD b0
  go_enter Tryd.func8, Tryd.ntmps8
  go_upto_region 10 with fail
  generalize w.alloc (.cells #[.int .i64 3, .int .i64 A, .int .i64 B, .int .i64 C] 30) = w1 at *
  generalize w.heap.size = P at *
  have c0 := D0.c0
  have bn := below_drewN (Below.refl w1.heap.size w1) 1
  have hc := count_any b g n M A B hA (w1.drewN 1) (D0.below bn).mp (hLd.below bn)
  have HD : Hid (Dk W0 w1 d b g r h n M vs vt (sps L) (tps L) L ∧ Below w1.heap.size w1 (w1.drewN 1)) := ⟨D0, bn⟩
  clear D0 bn
  refine quiet_call 8 mixed (by kernel_rfl) ?_
  simp only [List.take_succ_cons, List.take_zero, List.drop_succ_cons, List.drop_zero]
  repeat (go_big_quiet_step (fail))
  refine wpQuiet_nil ?_
  go_wp2_with fail
  refine hc.mono ?_
  rintro e w2 ⟨rfl, hb2⟩
  have bb : Below w1.heap.size w1 w2 := HD.out.2.trans (hb2.mono HD.out.2.size)
  have D2 := HD.out.1.below bb
  have z1 : ∀ p : Bel w2, p.v.cell? ⟨P, 1, none⟩ = some (.int .i64 A) := fun p => (p.h.cell (World.block_lt_of_cell? _ _ ((bb.cell (World.block_lt_of_cell? _ _ x1)).trans x1))).trans ((bb.cell (World.block_lt_of_cell? _ _ x1)).trans x1)
  have z2 : ∀ p : Bel w2, p.v.cell? ⟨P, 2, none⟩ = some (.int .i64 B) := fun p => (p.h.cell (World.block_lt_of_cell? _ _ ((bb.cell (World.block_lt_of_cell? _ _ x2)).trans x2))).trans ((bb.cell (World.block_lt_of_cell? _ _ x2)).trans x2)
  have z3 : ∀ p : Bel w2, p.v.cell? ⟨d, 1, none⟩ = some (.pointer (some ⟨r, 0, none⟩)) := fun p => (D2.below p.h).c1
  have HS : Hid (∀ p : Bel w2, Calls Tryd.prog 19 #[.pointer (some ⟨r, 0, none⟩), .int .i64 A, .int .i64 B] p.v fun e w' => e = .returned (.int .i64 (rk M (min B n).toNat - rk M (max A 0).toNat : Nat)) ∧ Below p.v.heap.size p.v w') := fun p => (rcount_any r h n M A B p.v (D2.below p.h).rm).mono (fun _ _ ⟨h1, h2⟩ => ⟨h1, by rw [← h2]; exact Below.refl _ _⟩)
  have HF : Hid (∀ w', Below w2.heap.size w2 w' → DK W0 w' d b r n) := fun w' l => ⟨g, h, M, vs, vt, L, D2.below l, hl⟩
  clear hc hb2 bb x0 x1 x2 c0 HD D2 hLd hgP hdP
  haveI hinh : Inhabited (Bel w2) := ⟨⟨w2, Below.refl _ _⟩⟩
  go_wp2_with fail
  refine thenQuiet_mk ?_
  repeat (go_big_quiet_step (fail))
  refine wpQuiet_nil ?_
  go_upto_region 11 with fail
  refine region_below mixed (by kernel_rfl) ?_
  repeat (go_big_quiet_step (first | (go_at_call 19; exact calls_bel (HS.out _))))
  refine wpQuiet_nil ?_
  rintro w6 ⟨⟨w6, b8⟩, rfl⟩
  have HG : Hid (DK W0 w6 d b r n) := HF.out _ b8
  clear z1 z2 z3 HS HF
  go_wp2
  go_ret
  exact ⟨by simp, HG.out⟩

set_option maxHeartbeats 4000000 in
theorem plays4k (W0 : World) (d b r n : Nat) (A B C : Int) (hA : A ≤ 9223372036854775807) (w : World) (hD : DK W0 w d b r n) (hL : Laid W0) :
    Calls Tryd.prog 8 #[.pointer (some ⟨d, 0, none⟩), .agg #[.int .i64 4, .int .i64 A, .int .i64 B, .int .i64 C]] w fun e w' => e = .returned (.bool true) ∧ DK W0 w' d b r n := by
  obtain ⟨g, h, M, vs, vt, L, hD, hl⟩ := hD
  have b0 : Below w.heap.size w (w.alloc (.cells #[.int .i64 4, .int .i64 A, .int .i64 B, .int .i64 C] 30)) := Below.alloc (Below.refl _ _) (Nat.le_refl _) _
  have D0 := hD.below b0
  have hgP : g < w.heap.size := hD.mp.row.lt
  have hdP : d < w.heap.size := hD.own.lt
  have x0 : (w.alloc (.cells #[.int .i64 4, .int .i64 A, .int .i64 B, .int .i64 C] 30)).cell? ⟨w.heap.size, 0, none⟩ = some (.int .i64 4) := by simp
  have x1 : (w.alloc (.cells #[.int .i64 4, .int .i64 A, .int .i64 B, .int .i64 C] 30)).cell? ⟨w.heap.size, 1, none⟩ = some (.int .i64 A) := by simp
  have x2 : (w.alloc (.cells #[.int .i64 4, .int .i64 A, .int .i64 B, .int .i64 C] 30)).cell? ⟨w.heap.size, 2, none⟩ = some (.int .i64 B) := by simp
  have hLd := D0.laid hL
  clear hD b0
  go_enter Tryd.func8, Tryd.ntmps8
  go_upto_region 13 with fail
  generalize w.alloc (.cells #[.int .i64 4, .int .i64 A, .int .i64 B, .int .i64 C] 30) = w1 at *
  generalize w.heap.size = P at *
  have c0 := D0.c0
  have bn := below_drewN (Below.refl w1.heap.size w1) 1
  obtain ⟨k, hk⟩ := sk_ex M false n _ A.toNat rfl
  have hc := next_nat b g n A.toNat k M A (by split <;> omega) (by omega) hk (w1.drewN 1) (D0.below bn).mp (hLd.below bn)
  obtain ⟨nv, hnv⟩ : ∃ nv : Int, nv = (if k = n then -1 else (k : Int)) := ⟨_, rfl⟩
  rw [← hnv] at hc
  have HNV : Hid (nv = (if k = n then -1 else (k : Int)) ∧ Sk M false A.toNat n k) := ⟨hnv, hk⟩
  clear hnv hk
  have HD : Hid (Dk W0 w1 d b g r h n M vs vt (sps L) (tps L) L ∧ Below w1.heap.size w1 (w1.drewN 1)) := ⟨D0, bn⟩
  clear D0 bn
  refine quiet_call 6 mixed (by kernel_rfl) ?_
  simp only [List.take_succ_cons, List.take_zero, List.drop_succ_cons, List.drop_zero]
  repeat (go_big_quiet_step (fail))
  refine wpQuiet_nil ?_
  go_wp2_with fail
  refine hc.mono ?_
  rintro e w2 ⟨rfl, hb2⟩
  have bb : Below w1.heap.size w1 w2 := HD.out.2.trans (hb2.mono HD.out.2.size)
  have D2 := HD.out.1.below bb
  have z1 : ∀ p : Bel w2, p.v.cell? ⟨P, 1, none⟩ = some (.int .i64 A) := fun p => (p.h.cell (World.block_lt_of_cell? _ _ ((bb.cell (World.block_lt_of_cell? _ _ x1)).trans x1))).trans ((bb.cell (World.block_lt_of_cell? _ _ x1)).trans x1)
  have z2 : ∀ p : Bel w2, p.v.cell? ⟨P, 2, none⟩ = some (.int .i64 B) := fun p => (p.h.cell (World.block_lt_of_cell? _ _ ((bb.cell (World.block_lt_of_cell? _ _ x2)).trans x2))).trans ((bb.cell (World.block_lt_of_cell? _ _ x2)).trans x2)
  have z3 : ∀ p : Bel w2, p.v.cell? ⟨d, 1, none⟩ = some (.pointer (some ⟨r, 0, none⟩)) := fun p => (D2.below p.h).c1
  have HS : Hid (∀ p : Bel w2, Calls Tryd.prog 20 #[.pointer (some ⟨r, 0, none⟩), .int .i64 A] p.v fun e w' => e = .returned (.int .i64 nv) ∧ Below p.v.heap.size p.v w') := fun p => (rnext_any r h n k M A HNV.out.2 p.v (D2.below p.h).rm).mono (fun _ _ ⟨h1, h2⟩ => ⟨by rw [HNV.out.1]; exact h1, by rw [← h2]; exact Below.refl _ _⟩)
  have HF : Hid (∀ w', Below w2.heap.size w2 w' → DK W0 w' d b r n) := fun w' l => ⟨g, h, M, vs, vt, L, D2.below l, hl⟩
  clear hc hb2 bb x0 x1 x2 c0 HD D2 hLd hgP hdP
  haveI hinh : Inhabited (Bel w2) := ⟨⟨w2, Below.refl _ _⟩⟩
  go_wp2_with fail
  refine thenQuiet_mk ?_
  repeat (go_big_quiet_step (fail))
  refine wpQuiet_nil ?_
  go_upto_region 14 with fail
  refine region_below mixed (by kernel_rfl) ?_
  repeat (go_big_quiet_step (first | (go_at_call 20; exact calls_bel (HS.out _))))
  refine wpQuiet_nil ?_
  rintro w6 ⟨⟨w6, b8⟩, rfl⟩
  have HG : Hid (DK W0 w6 d b r n) := HF.out _ b8
  clear z1 z2 z3 HS HF
  go_wp2
  go_ret
  exact ⟨by simp, HG.out⟩

set_option maxHeartbeats 4000000 in
theorem plays5 (W0 : World) (d b r n : Nat) (A B C : Int) (w : World) (hD : DK W0 w d b r n) (hL : Laid W0) :
    Calls Tryd.prog 8 #[.pointer (some ⟨d, 0, none⟩), .agg #[.int .i64 5, .int .i64 A, .int .i64 B, .int .i64 C]] w fun e w' => e = .returned (.bool true) ∧ DK W0 w' d b r n := by
  obtain ⟨g, h, M, vs, vt, L, hD, hl⟩ := hD
  have b0 : Below w.heap.size w (w.alloc (.cells #[.int .i64 5, .int .i64 A, .int .i64 B, .int .i64 C] 30)) := Below.alloc (Below.refl _ _) (Nat.le_refl _) _
  have D0 := hD.below b0
  have hgP : g < w.heap.size := hD.mp.row.lt
  have hdP : d < w.heap.size := hD.own.lt
  have x0 : (w.alloc (.cells #[.int .i64 5, .int .i64 A, .int .i64 B, .int .i64 C] 30)).cell? ⟨w.heap.size, 0, none⟩ = some (.int .i64 5) := by simp
  have x1 : (w.alloc (.cells #[.int .i64 5, .int .i64 A, .int .i64 B, .int .i64 C] 30)).cell? ⟨w.heap.size, 1, none⟩ = some (.int .i64 A) := by simp
  have x2 : (w.alloc (.cells #[.int .i64 5, .int .i64 A, .int .i64 B, .int .i64 C] 30)).cell? ⟨w.heap.size, 2, none⟩ = some (.int .i64 B) := by simp
  have hLd := D0.laid hL
  clear hD b0
  go_enter Tryd.func8, Tryd.ntmps8
  go_upto_region 16 with fail
  generalize w.alloc (.cells #[.int .i64 5, .int .i64 A, .int .i64 B, .int .i64 C] 30) = w1 at *
  generalize w.heap.size = P at *
  have hc := druns_any d b g r h n M vs vt A w1 D0.own D0.mp D0.rm hLd
  have HD : Hid (Dk W0 w1 d b g r h n M vs vt (sps L) (tps L) L) := D0
  clear D0
  go_wp2_with fail
  refine hc.mono ?_
  rintro e w2 ⟨rfl, b2⟩
  have HG : Hid (DK W0 w2 d b r n) := ⟨g, h, M, vs, vt, L, HD.out.below b2, hl⟩
  clear hc b2 HD
  go_wp2
  go_ret
  exact ⟨rfl, HG.out⟩

set_option maxHeartbeats 4000000 in
theorem plays6 (W0 : World) (d b r n : Nat) (A B C : Int) (w : World) (hD : DK W0 w d b r n) (hL : Laid W0) :
    Calls Tryd.prog 8 #[.pointer (some ⟨d, 0, none⟩), .agg #[.int .i64 6, .int .i64 A, .int .i64 B, .int .i64 C]] w fun e w' => e = .returned (.bool true) ∧ DK W0 w' d b r n := by
  obtain ⟨g, h, M, vs, vt, L, hD, hl⟩ := hD
  have b0 : Below w.heap.size w (w.alloc (.cells #[.int .i64 6, .int .i64 A, .int .i64 B, .int .i64 C] 30)) := Below.alloc (Below.refl _ _) (Nat.le_refl _) _
  have D0 := hD.below b0
  have hgP : g < w.heap.size := hD.mp.row.lt
  have hdP : d < w.heap.size := hD.own.lt
  have x0 : (w.alloc (.cells #[.int .i64 6, .int .i64 A, .int .i64 B, .int .i64 C] 30)).cell? ⟨w.heap.size, 0, none⟩ = some (.int .i64 6) := by simp
  have x1 : (w.alloc (.cells #[.int .i64 6, .int .i64 A, .int .i64 B, .int .i64 C] 30)).cell? ⟨w.heap.size, 1, none⟩ = some (.int .i64 A) := by simp
  have x2 : (w.alloc (.cells #[.int .i64 6, .int .i64 A, .int .i64 B, .int .i64 C] 30)).cell? ⟨w.heap.size, 2, none⟩ = some (.int .i64 B) := by simp
  have hLd := D0.laid hL
  clear hD b0
  go_enter Tryd.func8, Tryd.ntmps8
  go_upto_region 18 with fail
  generalize w.alloc (.cells #[.int .i64 6, .int .i64 A, .int .i64 B, .int .i64 C] 30) = w1 at *
  generalize w.heap.size = P at *
  have hc := words_any b g n M w1 D0.mp
  have c0 := D0.c0
  have c1 := D0.c1
  have cr := D0.rm.c0
  have hn := D0.mp.le
  have HG : Hid (DK W0 w1 d b r n) := ⟨g, h, M, vs, vt, L, D0, hl⟩
  clear D0
  go_wp2_with fail
  refine hc.mono ?_
  rintro e w2 ⟨rfl, rfl⟩
  clear hc
  go_wp2
  go_ret
  exact ⟨by simp, HG.out⟩

set_option maxHeartbeats 4000000 in
theorem plays7 (W0 : World) (d b r n : Nat) (A B C : Int) (w : World) (hD : DK W0 w d b r n) (hL : Laid W0) :
    Calls Tryd.prog 8 #[.pointer (some ⟨d, 0, none⟩), .agg #[.int .i64 7, .int .i64 A, .int .i64 B, .int .i64 C]] w fun e w' => e = .returned (.bool true) ∧ DK W0 w' d b r n := by
  obtain ⟨g, h, M, vs, vt, L, hD, hl⟩ := hD
  have b0 : Below w.heap.size w (w.alloc (.cells #[.int .i64 7, .int .i64 A, .int .i64 B, .int .i64 C] 30)) := Below.alloc (Below.refl _ _) (Nat.le_refl _) _
  have D0 := hD.below b0
  have hgP : g < w.heap.size := hD.mp.row.lt
  have hdP : d < w.heap.size := hD.own.lt
  have x0 : (w.alloc (.cells #[.int .i64 7, .int .i64 A, .int .i64 B, .int .i64 C] 30)).cell? ⟨w.heap.size, 0, none⟩ = some (.int .i64 7) := by simp
  have x1 : (w.alloc (.cells #[.int .i64 7, .int .i64 A, .int .i64 B, .int .i64 C] 30)).cell? ⟨w.heap.size, 1, none⟩ = some (.int .i64 A) := by simp
  have x2 : (w.alloc (.cells #[.int .i64 7, .int .i64 A, .int .i64 B, .int .i64 C] 30)).cell? ⟨w.heap.size, 2, none⟩ = some (.int .i64 B) := by simp
  have hLd := D0.laid hL
  clear hD b0
  go_enter Tryd.func8, Tryd.ntmps8
  go_upto_region 21 with fail
  generalize w.alloc (.cells #[.int .i64 7, .int .i64 A, .int .i64 B, .int .i64 C] 30) = w1 at *
  generalize w.heap.size = P at *
  have hc := clear_any b g n M w1 D0.mp
  have c0 := D0.c0
  have HD : Hid (Dk W0 w1 d b g r h n M vs vt (sps L) (tps L) L) := D0
  clear D0
  go_wp2_with fail
  refine hc.mono ?_
  rintro e w2 ⟨rfl, m2, t2⟩
  have hnd := HD.out.nd
  simp only [dfp, List.cons_append, List.nil_append, List.nodup_cons, List.mem_cons, List.mem_append, not_or] at hnd
  obtain ⟨⟨db, dg, dr, dh, dq⟩, ⟨bg, br, bh, bq⟩, ⟨gr, gh, gq⟩, ⟨rh, rq⟩, hq, hnd⟩ := hnd
  have rm2 := HD.out.rm.touch t2 (by simp; exact Ne.symm gr) (by simp; exact Ne.symm gh)
  have c1 : w2.cell? ⟨d, 1, none⟩ = some (.pointer (some ⟨r, 0, none⟩)) := t2.cell HD.out.c1 (by simp; exact dg)
  have hc2 := rclear_any r h n M w2 rm2
  have H2 : Hid (Mp w2 b g n (fun _ => false) ∧ Touch [g] w1 w2) := ⟨m2, t2⟩
  clear hc m2 t2 rm2 db dg dr dh dq bg br bh bq gr gh gq rh rq hq hnd c0 x0 x1 x2 hLd
  go_wp2_with fail
  refine hc2.mono ?_
  rintro e w3 ⟨rfl, ⟨h', hh, r3⟩, t3⟩
  have HG : Hid (DK W0 w3 d b r n) := ⟨g, h', _, vs, vt, L, HD.out.clear H2.out.2 H2.out.1 t3 hh r3, hl⟩
  clear hc2 hh r3 t3 H2 HD c1
  go_wp2
  go_ret
  exact ⟨rfl, HG.out⟩

end Go.Proofs.YtlnfhnahnmblmabDoor
