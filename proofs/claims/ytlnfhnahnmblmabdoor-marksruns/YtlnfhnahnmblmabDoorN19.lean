/-
  plays: Set, the slides, and the whole.
-/
import Derived.Test.YtlnfhnahnmblmabDoorN18
set_option linter.unusedVariables false
set_option maxRecDepth 100000
namespace Go.Proofs.YtlnfhnahnmblmabDoor
open Go.RowKit Go.Shelf

set_option maxHeartbeats 4000000 in
theorem plays1_out (W0 : World) (d b r n : Nat) (A B C : Int) (hA : A ≤ 9223372036854775807) (hno : A < 0 ∨ B < 0 ∨ (n : Int) - A < B) (w : World) (hD : DK W0 w d b r n) (hL : Laid W0) :
    Calls Tryd.prog 8 #[.pointer (some ⟨d, 0, none⟩), .agg #[.int .i64 1, .int .i64 A, .int .i64 B, .int .i64 C]] w fun e w' => e = .returned (.bool true) ∧ DK W0 w' d b r n := by
  obtain ⟨g, h, M, vs, vt, L, hD, hl⟩ := hD
  have b0 : Below w.heap.size w (w.alloc (.cells #[.int .i64 1, .int .i64 A, .int .i64 B, .int .i64 C] 30)) := Below.alloc (Below.refl _ _) (Nat.le_refl _) _
  have D0 := hD.below b0
  have hgP : g < w.heap.size := hD.mp.row.lt
  have hdP : d < w.heap.size := hD.own.lt
  have x0 : (w.alloc (.cells #[.int .i64 1, .int .i64 A, .int .i64 B, .int .i64 C] 30)).cell? ⟨w.heap.size, 0, none⟩ = some (.int .i64 1) := by simp
  have x1 : (w.alloc (.cells #[.int .i64 1, .int .i64 A, .int .i64 B, .int .i64 C] 30)).cell? ⟨w.heap.size, 1, none⟩ = some (.int .i64 A) := by simp
  have x2 : (w.alloc (.cells #[.int .i64 1, .int .i64 A, .int .i64 B, .int .i64 C] 30)).cell? ⟨w.heap.size, 2, none⟩ = some (.int .i64 B) := by simp
  have hLd := D0.laid hL
  clear hD b0
  have HN : Hid (A ≤ 9223372036854775807 ∧ (A < 0 ∨ B < 0 ∨ (n : Int) - A < B)) := ⟨hA, hno⟩
  clear hA hno
  go_enter Tryd.func8, Tryd.ntmps8
  go_upto_region 3 with fail
  generalize w.alloc (.cells #[.int .i64 1, .int .i64 A, .int .i64 B, .int .i64 C] 30) = w1 at *
  generalize w.heap.size = P at *
  have c0 := D0.c0
  have bn := below_drewN (Below.refl w1.heap.size w1) 1
  have hc := set_out b g n M A B HN.out.1 HN.out.2 (w1.drewN 1) (D0.below bn).mp
  have HD : Hid (Dk W0 w1 d b g r h n M vs vt (sps L) (tps L) L ∧ Below w1.heap.size w1 (w1.drewN 1)) := ⟨D0, bn⟩
  clear D0 bn
  refine quiet_call 8 mixed (by kernel_rfl) ?_
  simp only [List.take_succ_cons, List.take_zero, List.drop_succ_cons, List.drop_zero]
  repeat (go_big_quiet_step (fail))
  refine wpQuiet_nil ?_
  go_wp2_with fail
  refine hc.mono ?_
  rintro e w2 ⟨rfl, b2⟩
  have bb : Below w1.heap.size w1 w2 := HD.out.2.trans (b2.mono HD.out.2.size)
  have y1 := (bb.cell (World.block_lt_of_cell? _ _ x1)).trans x1
  have y2 := (bb.cell (World.block_lt_of_cell? _ _ x2)).trans x2
  have D2 := HD.out.1.below bb
  have c1 := D2.c1
  have bn := below_drewN (Below.refl w2.heap.size w2) 1
  have hc2 := rset_out r h n M A B HN.out.1 HN.out.2 (w2.drewN 1) (D2.below bn).rm
  have HG : Hid (DK W0 (w2.drewN 1) d b r n) := ⟨g, h, M, vs, vt, L, D2.below bn, hl⟩
  clear hc b2 bb x0 x1 x2 c0 HD D2 hLd hgP hdP bn
  go_wp2_with fail
  refine thenQuiet_mk ?_
  repeat (go_big_quiet_step (fail))
  refine wpQuiet_nil ?_
  go_upto_region 4 with fail
  refine quiet_call 8 mixed (by kernel_rfl) ?_
  simp only [List.take_succ_cons, List.take_zero, List.drop_succ_cons, List.drop_zero]
  repeat (go_big_quiet_step (fail))
  refine wpQuiet_nil ?_
  go_wp2_with fail
  refine hc2.mono ?_
  rintro e w3 ⟨rfl, hw⟩
  rw [hw] at HG
  have hnum := num_any 41 w3
  clear hc2 hw y1 y2 c1
  go_wp2_with fail
  refine thenQuiet_mk ?_
  repeat (go_big_quiet_step (fail))
  refine wpQuiet_nil ?_
  go_wp2_with fail
  refine hnum.mono ?_
  rintro e w4 ⟨rfl, rfl⟩
  clear hnum
  go_wp2
  go_ret
  exact ⟨rfl, HG.out⟩

set_option maxHeartbeats 4000000 in
theorem plays1_in (W0 : World) (d b r n : Nat) (A B : Nat) (C : Int) (hin : A + B ≤ n) (w : World) (hD : DK W0 w d b r n) (hL : Laid W0) :
    Calls Tryd.prog 8 #[.pointer (some ⟨d, 0, none⟩), .agg #[.int .i64 1, .int .i64 A, .int .i64 B, .int .i64 C]] w fun e w' => e = .returned (.bool true) ∧ DK W0 w' d b r n := by
  obtain ⟨g, h, M, vs, vt, L, hD, hl⟩ := hD
  have b0 : Below w.heap.size w (w.alloc (.cells #[.int .i64 1, .int .i64 A, .int .i64 B, .int .i64 C] 30)) := Below.alloc (Below.refl _ _) (Nat.le_refl _) _
  have D0 := hD.below b0
  have hgP : g < w.heap.size := hD.mp.row.lt
  have hdP : d < w.heap.size := hD.own.lt
  have x0 : (w.alloc (.cells #[.int .i64 1, .int .i64 A, .int .i64 B, .int .i64 C] 30)).cell? ⟨w.heap.size, 0, none⟩ = some (.int .i64 1) := by simp
  have x1 : (w.alloc (.cells #[.int .i64 1, .int .i64 A, .int .i64 B, .int .i64 C] 30)).cell? ⟨w.heap.size, 1, none⟩ = some (.int .i64 A) := by simp
  have x2 : (w.alloc (.cells #[.int .i64 1, .int .i64 A, .int .i64 B, .int .i64 C] 30)).cell? ⟨w.heap.size, 2, none⟩ = some (.int .i64 B) := by simp
  have hLd := D0.laid hL
  clear hD b0
  have HN : Hid (A + B ≤ n) := hin
  clear hin
  go_enter Tryd.func8, Tryd.ntmps8
  go_upto_region 3 with fail
  generalize w.alloc (.cells #[.int .i64 1, .int .i64 A, .int .i64 B, .int .i64 C] 30) = w1 at *
  generalize w.heap.size = P at *
  have c0 := D0.c0
  have bn := below_drewN (Below.refl w1.heap.size w1) 1
  have hc := set_in b g n M A B HN.out (w1.drewN 1) (D0.below bn).mp
  have HD : Hid (Dk W0 w1 d b g r h n M vs vt (sps L) (tps L) L ∧ Below w1.heap.size w1 (w1.drewN 1)) := ⟨D0, bn⟩
  clear D0 bn
  refine quiet_call 8 mixed (by kernel_rfl) ?_
  simp only [List.take_succ_cons, List.take_zero, List.drop_succ_cons, List.drop_zero]
  repeat (go_big_quiet_step (fail))
  refine wpQuiet_nil ?_
  go_wp2_with fail
  refine hc.mono ?_
  rintro e w2 ⟨fs, hfs, rfl, m2, t2⟩
  have hnd := HD.out.1.nd
  simp only [dfp, List.cons_append, List.nil_append, List.nodup_cons, List.mem_cons, List.mem_append, not_or] at hnd
  obtain ⟨⟨db, dg, dr, dh, dq⟩, ⟨bg, br, bh, bq⟩, ⟨gr, gh, gq⟩, ⟨rh, rq⟩, hq, hnd⟩ := hnd
  have tt : Touch [g] w1 w2 := (Touch.of_below HD.out.2 [g]).trans t2
  have y1 : w2.cell? ⟨P, 1, none⟩ = some (.int .i64 A) := tt.cell x1 (by simp; omega)
  have y2 : w2.cell? ⟨P, 2, none⟩ = some (.int .i64 B) := tt.cell x2 (by simp; omega)
  have c1 : w2.cell? ⟨d, 1, none⟩ = some (.pointer (some ⟨r, 0, none⟩)) := tt.cell HD.out.1.c1 (by simp; exact dg)
  have rm2 := HD.out.1.rm.touch tt (by simp; exact Ne.symm gr) (by simp; exact Ne.symm gh)
  have bn := below_drewN (Below.refl w2.heap.size w2) 1
  have hc2 := rset_in r h n M A B HN.out (w2.drewN 1) (rm2.below bn)
  have H2 : Hid (Dk W0 w1 d b g r h n M vs vt (sps L) (tps L) L ∧ Touch [g] w1 (w2.drewN 1) ∧ Mp (w2.drewN 1) b g n (add M A (A + B)) ∧ (fs = true ↔ ∀ k, A ≤ k → k < A + B → M k = false)) := ⟨HD.out.1, tt.trans (Touch.of_below bn [g]), m2.below bn, hfs⟩
  clear hc m2 t2 tt x0 x1 x2 c0 HD hLd hgP hdP bn rm2 hfs db dg dr dh dq bg br bh bq gr gh gq rh rq hq hnd
  go_wp2_with fail
  refine thenQuiet_mk ?_
  repeat (go_big_quiet_step (fail))
  refine wpQuiet_nil ?_
  go_upto_region 4 with fail
  refine quiet_call 8 mixed (by kernel_rfl) ?_
  simp only [List.take_succ_cons, List.take_zero, List.drop_succ_cons, List.drop_zero]
  repeat (go_big_quiet_step (fail))
  refine wpQuiet_nil ?_
  go_wp2_with fail
  refine hc2.mono ?_
  rintro e w3 ⟨fs2, hfs2, rfl, r3, t3⟩
  obtain rfl : fs2 = fs := by
    have h1 := H2.out.2.2.2
    rw [← hfs2] at h1
    cases fs <;> cases fs2 <;> simp_all
  have HG : Hid (DK W0 w3 d b r n) := ⟨g, h, _, vs, vt, L, H2.out.1.two H2.out.2.1 H2.out.2.2.1 t3 r3, hl⟩
  have hnum := num_any 0 w3
  clear hc2 y1 y2 c1 H2 r3 t3 hfs2
  go_wp2_with fail
  refine thenQuiet_mk ?_
  repeat (go_big_quiet_step (fail))
  refine wpQuiet_nil ?_
  cases fs2
  · go_wp2_with fail
    refine hnum.mono ?_
    rintro e w4 ⟨rfl, rfl⟩
    clear hnum
    go_wp2
    go_ret
    exact ⟨rfl, HG.out⟩
  · go_wp2_with fail
    refine hnum.mono ?_
    rintro e w4 ⟨rfl, rfl⟩
    clear hnum
    go_wp2
    go_ret
    exact ⟨rfl, HG.out⟩

set_option maxHeartbeats 4000000 in
theorem plays_slides (W0 : World) (d b r n : Nat) (K A B C : Int) (hK : 8 ≤ K ∧ K ≤ 11) (hA : A ≤ 9223372036854775807) (w : World) (hD : DK W0 w d b r n) (hL : Laid W0) :
    Calls Tryd.prog 8 #[.pointer (some ⟨d, 0, none⟩), .agg #[.int .i64 K, .int .i64 A, .int .i64 B, .int .i64 C]] w fun e w' => e = .returned (.bool true) ∧ DK W0 w' d b r n := by
  have b0 : Below w.heap.size w (w.alloc (.cells #[.int .i64 K, .int .i64 A, .int .i64 B, .int .i64 C] 30)) := Below.alloc (Below.refl _ _) (Nat.le_refl _) _
  have hD1 := hD.below b0
  have x0 : (w.alloc (.cells #[.int .i64 K, .int .i64 A, .int .i64 B, .int .i64 C] 30)).cell? ⟨w.heap.size, 0, none⟩ = some (.int .i64 K) := by simp
  have x1 : (w.alloc (.cells #[.int .i64 K, .int .i64 A, .int .i64 B, .int .i64 C] 30)).cell? ⟨w.heap.size, 1, none⟩ = some (.int .i64 A) := by simp
  have x2 : (w.alloc (.cells #[.int .i64 K, .int .i64 A, .int .i64 B, .int .i64 C] 30)).cell? ⟨w.heap.size, 2, none⟩ = some (.int .i64 B) := by simp
  have x3 : (w.alloc (.cells #[.int .i64 K, .int .i64 A, .int .i64 B, .int .i64 C] 30)).cell? ⟨w.heap.size, 3, none⟩ = some (.int .i64 C) := by simp
  have hc : Calls Tryd.prog 24 #[.pointer (some ⟨d, 0, none⟩), .agg #[.int .i64 K, .int .i64 A, .int .i64 B, .int .i64 C]] (w.alloc (.cells #[.int .i64 K, .int .i64 A, .int .i64 B, .int .i64 C] 30)) fun e w' => e = .returned (.bool true) ∧ DK W0 w' d b r n := by
    obtain ⟨g, h, M, vs, vt, L, hk, hl⟩ := hD1
    by_cases k8 : K = 8
    · subst k8
      by_cases hno : A < 0 ∨ (n : Int) < B ∨ B < A ∨ C < 0 ∨ 1048576 < C
      · exact dslides8_out W0 d b g r h n M vs vt L hl A B C hno _ hk
      · obtain ⟨A, rfl⟩ : ∃ a : Nat, A = a := ⟨A.toNat, by omega⟩
        obtain ⟨B, rfl⟩ : ∃ a : Nat, B = a := ⟨B.toNat, by omega⟩
        obtain ⟨C, rfl⟩ : ∃ a : Nat, C = a := ⟨C.toNat, by omega⟩
        exact dslides8_in W0 d b g r h n M vs vt L hl A B C (by omega) (by omega) (by omega) _ hk hL
    · exact dslides_ask W0 d b g r h n M vs vt L hl K A B C k8 hA _ hk hL
  clear hD b0 hD1
  obtain h8 | h9 | h10 | h11 : K = 8 ∨ K = 9 ∨ K = 10 ∨ K = 11 := by omega
  all_goals
    subst K
    clear hK
    go_enter Tryd.func8, Tryd.ntmps8
    go_upto_region 27 with fail
    generalize w.alloc (.cells _ 30) = w1 at *
    generalize w.heap.size = P at *
    go_wp2_with fail
    refine hc.mono ?_
    rintro e w2 ⟨rfl, h2⟩
    have HG : Hid (DK W0 w2 d b r n) := h2
    clear hc h2 x0 x1 x2 x3
    go_wp2
    go_ret
    exact ⟨rfl, HG.out⟩

set_option maxHeartbeats 4000000 in
theorem plays_none (W0 : World) (d b r n : Nat) (K A B C : Int) (hK : K < 1 ∨ 11 < K) (w : World) (hD : DK W0 w d b r n) :
    Calls Tryd.prog 8 #[.pointer (some ⟨d, 0, none⟩), .agg #[.int .i64 K, .int .i64 A, .int .i64 B, .int .i64 C]] w fun e w' => e = .returned (.bool true) ∧ DK W0 w' d b r n := by
  have b0 : Below w.heap.size w (w.alloc (.cells #[.int .i64 K, .int .i64 A, .int .i64 B, .int .i64 C] 30)) := Below.alloc (Below.refl _ _) (Nat.le_refl _) _
  have HD : Hid (DK W0 (w.alloc (.cells #[.int .i64 K, .int .i64 A, .int .i64 B, .int .i64 C] 30)) d b r n) := hD.below b0
  have x0 : (w.alloc (.cells #[.int .i64 K, .int .i64 A, .int .i64 B, .int .i64 C] 30)).cell? ⟨w.heap.size, 0, none⟩ = some (.int .i64 K) := by simp
  have k1 : (K == 1) = false := by simp; omega
  have k2 : (K == 2) = false := by simp; omega
  have k3 : (K == 3) = false := by simp; omega
  have k4 : (K == 4) = false := by simp; omega
  have k5 : (K == 5) = false := by simp; omega
  have k6 : (K == 6) = false := by simp; omega
  have k7 : (K == 7) = false := by simp; omega
  have k8 : (K == 8) = false := by simp; omega
  have k9 : (K == 9) = false := by simp; omega
  have k10 : (K == 10) = false := by simp; omega
  have k11 : (K == 11) = false := by simp; omega
  clear hK hD b0
  go_enter Tryd.func8, Tryd.ntmps8
  go_upto_region 1 with fail
  generalize w.alloc (.cells #[.int .i64 K, .int .i64 A, .int .i64 B, .int .i64 C] 30) = w1 at *
  generalize w.heap.size = P at *
  go_wp2
  go_ret
  exact ⟨rfl, HD.out⟩

theorem plays_any (W0 : World) (d b r n : Nat) (K A B C : Int) (hA : A ≤ 9223372036854775807) (w : World) (hD : DK W0 w d b r n) (hL : Laid W0) :
    Calls Tryd.prog 8 #[.pointer (some ⟨d, 0, none⟩), .agg #[.int .i64 K, .int .i64 A, .int .i64 B, .int .i64 C]] w fun e w' => e = .returned (.bool true) ∧ DK W0 w' d b r n := by
  by_cases hn : K < 1 ∨ 11 < K
  · exact plays_none W0 d b r n K A B C hn w hD
  · by_cases h8 : 8 ≤ K
    · exact plays_slides W0 d b r n K A B C (by omega) hA w hD hL
    · obtain rfl | rfl | rfl | rfl | rfl | rfl | rfl : K = 1 ∨ K = 2 ∨ K = 3 ∨ K = 4 ∨ K = 5 ∨ K = 6 ∨ K = 7 := by omega
      · by_cases hno : A < 0 ∨ B < 0 ∨ (n : Int) - A < B
        · exact plays1_out W0 d b r n A B C hA hno w hD hL
        · obtain ⟨A, rfl⟩ : ∃ a : Nat, A = a := ⟨A.toNat, by omega⟩
          obtain ⟨B, rfl⟩ : ∃ a : Nat, B = a := ⟨B.toNat, by omega⟩
          exact plays1_in W0 d b r n A B C (by omega) w hD hL
      · exact plays2 W0 d b r n A B C w hD hL
      · exact plays3 W0 d b r n A B C hA w hD hL
      · exact plays4k W0 d b r n A B C hA w hD hL
      · exact plays5 W0 d b r n A B C w hD hL
      · exact plays6 W0 d b r n A B C w hD hL
      · exact plays7 W0 d b r n A B C w hD hL
end Go.Proofs.YtlnfhnahnmblmabDoor
