/-
  desk.slides: a slide is made.
-/
import Derived.Test.YtlnfhnahnmblmabDoorN15
set_option linter.unusedVariables false
set_option maxRecDepth 100000
namespace Go.Proofs.YtlnfhnahnmblmabDoor
open Go.RowKit Go.Shelf

theorem Tryd.infoSlide : (Tryd.prog.info? 71).map (fun i => (i.zero, i.size, i.bytes)) = some (some (.pointer none), 1, 8) := by kernel_rfl
theorem Tryd.infoRslide : (Tryd.prog.info? 74).map (fun i => (i.zero, i.size, i.bytes)) = some (some (.pointer none), 1, 8) := by kernel_rfl

theorem Dk.more {W0 w : World} {d b g r h n : Nat} {M : Nat → Bool} {vs vt : Value} {xs ys : List Value} {L : List Sr2} (x : Dk W0 w d b g r h n M vs vt xs ys L) (y : Sr2) (hy : Kp w (dfp d b g r h vs vt) y) : Dk W0 w d b g r h n M vs vt xs ys (L ++ [y]) :=
  ⟨x.own, x.mp, x.rm, x.rs, x.rt, fun z hz => by
    rcases List.mem_append.1 hz with h1 | h1
    · exact x.kp z h1
    · rw [List.mem_singleton.1 h1]; exact hy, x.nd, x.ge, x.be⟩

/-- A new slide beside a desk's blocks. -/
theorem Dk.fresh {W0 w w1 w2 : World} {d b g r h n : Nat} {M : Nat → Bool} {vs vt : Value} {xs ys : List Value} {L : List Sr2} (x : Dk W0 w d b g r h n M vs vt xs ys L) {s kb kg q base e : Nat} {N : Nat → Bool} {p : Option Addr} {C : Nat}
    (b1 : Below w.heap.size w w1) (hs : Sl w1 s kb kg q base e N) (h1 : w.heap.size ≤ s) (h2 : w.heap.size ≤ kb) (h3 : w.heap.size ≤ kg) (h4 : w.heap.size ≤ q) (b2 : Below w1.heap.size w1 w2) (hr : Rs w2 w1.heap.size base e (w1.heap.size + 1) N p C) :
    Kp w2 (dfp d b g r h vs vt) ⟨s, kb, kg, q, w1.heap.size, base, e, N, p, C⟩ := by
  have lts := x.lts
  have hsz := b1.size
  have no : ∀ k, w.heap.size ≤ k → k ∉ dfp d b g r h vs vt := fun k hk hm => by have := lts k hm; omega
  exact ⟨hs.below b2, hr.own, fun i u hu => by
    obtain ⟨g', k1, k2, k3⟩ := hr.ls i u hu
    exact ⟨g', no g' (by omega), k2, k3⟩, hr.cap, no _ h1, no _ h2, no _ h3, no _ h4, no _ hsz⟩

set_option maxHeartbeats 8000000 in
theorem dslides8_in (W0 : World) (d b g r h n : Nat) (M : Nat → Bool) (vs vt : Value) (L : List Sr2) (hl : L.length ≤ 6) (A B C : Nat) (h1 : A ≤ B) (h2 : B ≤ n) (h3 : C ≤ 1048576) (w : World) (hD : Dk W0 w d b g r h n M vs vt (sps L) (tps L) L) (hL : Laid W0) :
    Calls Tryd.prog 24 #[.pointer (some ⟨d, 0, none⟩), .agg #[.int .i64 8, .int .i64 A, .int .i64 B, .int .i64 C]] w fun e w' => e = .returned (.bool true) ∧ DK W0 w' d b r n := by
  obtain ⟨i0, hi, hz0, hz1, hz2⟩ := info_parts Tryd.infoSlide
  have HI0 : Hid ((Tryd.prog.info? 71 = some i0) ∧ i0.zero = some (.pointer none) ∧ i0.size = 1 ∧ i0.bytes = 8) := ⟨hi, hz0, hz1, hz2⟩
  clear hi hz0 hz1 hz2
  obtain ⟨i1, hi, hz0, hz1, hz2⟩ := info_parts Tryd.infoRslide
  have HI1 : Hid ((Tryd.prog.info? 74 = some i1) ∧ i1.zero = some (.pointer none) ∧ i1.size = 1 ∧ i1.bytes = 8) := ⟨hi, hz0, hz1, hz2⟩
  clear hi hz0 hz1 hz2
  have b0 : Below w.heap.size w (w.alloc (.cells #[.int .i64 8, .int .i64 A, .int .i64 B, .int .i64 C] 30)) := Below.alloc (Below.refl _ _) (Nat.le_refl _) _
  have D0 := hD.below b0
  have HB : Hid _ := b0
  have x0 : (w.alloc (.cells #[.int .i64 8, .int .i64 A, .int .i64 B, .int .i64 C] 30)).cell? ⟨w.heap.size, 0, none⟩ = some (.int .i64 8) := by simp
  have x1 : (w.alloc (.cells #[.int .i64 8, .int .i64 A, .int .i64 B, .int .i64 C] 30)).cell? ⟨w.heap.size, 1, none⟩ = some (.int .i64 A) := by simp
  have x2 : (w.alloc (.cells #[.int .i64 8, .int .i64 A, .int .i64 B, .int .i64 C] 30)).cell? ⟨w.heap.size, 2, none⟩ = some (.int .i64 B) := by simp
  have x3 : (w.alloc (.cells #[.int .i64 8, .int .i64 A, .int .i64 B, .int .i64 C] 30)).cell? ⟨w.heap.size, 3, none⟩ = some (.int .i64 C) := by simp
  have H123 : Hid (A ≤ B ∧ B ≤ n ∧ C ≤ 1048576) := ⟨h1, h2, h3⟩
  clear h1 h2 h3 hD b0
  go_enter Tryd.func24, Tryd.ntmps24
  go_upto_region 2 with fail
  generalize w.alloc (.cells #[.int .i64 8, .int .i64 A, .int .i64 B, .int .i64 C] 30) = w1 at *
  generalize w.heap.size = P at *
  have c0 := D0.c0
  have D1 := D0.below (below_drewN (Below.refl _ _) 1)
  have hc := slide_in b g n A B C M H123.out.1 H123.out.2.1 H123.out.2.2 (w1.drewN 1) D1.mp (D1.laid hL)
  have HD : Hid (Dk W0 (w1.drewN 1) d b g r h n M vs vt (sps L) (tps L) L) := D1
  have Hb : Hid (Below w1.heap.size w1 (w1.drewN 1)) := below_drewN (Below.refl _ _) 1
  clear D0 D1
  refine quiet_call 10 mixed (by kernel_rfl) ?_
  simp only [List.take_succ_cons, List.take_zero, List.drop_succ_cons, List.drop_zero]
  repeat (go_big_quiet_step (fail))
  refine wpQuiet_nil ?_
  go_wp2_with fail
  refine hc.mono ?_
  rintro e w2 ⟨⟨s, kb, kg, q, rfl, hS, k1, k2, k3, k4⟩, b2⟩
  have y1 := (b2.cell (World.block_lt_of_cell? _ _ x1)).trans x1
  have y2 := (b2.cell (World.block_lt_of_cell? _ _ x2)).trans x2
  have y3 := (b2.cell (World.block_lt_of_cell? _ _ x3)).trans x3
  have D2 := HD.out.below b2
  have HS : Hid (Below (w1.drewN 1).heap.size (w1.drewN 1) w2 ∧ Sl w2 s kb kg q C B (cut M A B) ∧ (w1.drewN 1).heap.size ≤ s ∧ (w1.drewN 1).heap.size ≤ kb ∧ (w1.drewN 1).heap.size ≤ kg ∧ (w1.drewN 1).heap.size ≤ q) := ⟨b2, hS, k1, k2, k3, k4⟩
  clear hc x0 x1 x2 x3 c0 b2 hS k1 k2 k3 k4 Hb
  go_wp2_with fail
  refine thenQuiet_mk ?_
  repeat (go_big_quiet_step (fail))
  refine wpQuiet_nil ?_
  go_upto_region 3 with fail
  have c1 := D2.c1
  have D3 := D2.below (below_drewN (Below.refl _ _) 1)
  have hc := rslide_in r h n A B C M H123.out.1 H123.out.2.1 H123.out.2.2 (w2.drewN 1) D3.rm
  have HD2 : Hid (Dk W0 (w2.drewN 1) d b g r h n M vs vt (sps L) (tps L) L) := D3
  have Hb2 : Hid (Below w2.heap.size w2 (w2.drewN 1)) := below_drewN (Below.refl _ _) 1
  clear D2 D3
  refine quiet_call 10 mixed (by kernel_rfl) ?_
  simp only [List.take_succ_cons, List.take_zero, List.drop_succ_cons, List.drop_zero]
  repeat (go_big_quiet_step (fail))
  refine wpQuiet_nil ?_
  go_wp2_with fail
  refine hc.mono ?_
  rintro e w3 ⟨rfl, ⟨p, CC, hR⟩, b3⟩
  have b23 := HS.out.1.trans (Hb2.out.mono HS.out.1.size)
  have HK : Hid (Kp w3 (dfp d b g r h vs vt) ⟨s, kb, kg, q, (w2.drewN 1).heap.size, C, B, cut M A B, p, CC⟩) :=
    HD.out.fresh b23 (HS.out.2.1.below Hb2.out) HS.out.2.2.1 HS.out.2.2.2.1 HS.out.2.2.2.2.1 HS.out.2.2.2.2.2 b3 hR
  have D3 := HD2.out.below b3
  obtain ⟨t, ht⟩ : ∃ t, t = (w2.drewN 1).heap.size := ⟨_, rfl⟩
  rw [← ht] at HK ⊢
  clear hc y1 y2 y3 c1 HD HD2 b3 hR b23 Hb2 HS ht
  go_wp2_with fail
  refine thenQuiet_mk ?_
  repeat (go_big_quiet_step (fail))
  refine wpQuiet_nil ?_
  have hnum := num_any 0 w3
  go_wp2_with fail
  refine hnum.mono ?_
  rintro e w4 ⟨rfl, rfl⟩
  clear hnum
  have hsl : (sps L).length = L.length := by simp [sps]
  have htl : (tps L).length = L.length := by simp [tps]
  by_cases h6 : L.length < 6
  · obtain ⟨y, hy⟩ : ∃ y : Sr2, y = ⟨s, kb, kg, q, t, C, B, cut M A B, p, CC⟩ := ⟨_, rfl⟩
    rw [← hy] at HK
    have D4 := D3.more _ HK.out
    have HE : Hid (sps (L ++ [y]) = sps L ++ [.pointer (some ⟨s, 0, none⟩)] ∧ tps (L ++ [y]) = tps L ++ [.pointer (some ⟨t, 0, none⟩)] ∧ (L ++ [y]).length ≤ 6) := ⟨by simp [sps, hy], by simp [tps, hy], by simp; omega⟩
    generalize L ++ [y] = LL at *
    clear HK D3 hy
    generalize sps L = xs at *
    generalize tps L = ys at *
    have hx6 : xs.length < 6 := by omega
    have hy6 : ys.length < 6 := by omega
    have hxi : ((xs.length : Int) < 6) := by omega
    obtain ⟨a1, C1, rfl⟩ := own_slice D4.rs
    obtain ⟨a2, C2, rfl⟩ := own_slice D4.rt
    have c2 := D4.c2
    have hw0 := D4.be.size
    have HD : Hid _ := D4
    clear D4 hsl htl h6 hl
    go_wp2_with (at_builtin; refine wpList_append_own_at _ rfl _ _ 44 rfl W0.heap.size 71 i0 (.pointer none) 1 8 Tryd.underlying44 HI0.out.1 HI0.out.2.1 HI0.out.2.2.1 HI0.out.2.2.2 rfl (by decide) _ _ _ rfl (HD.out.rs.alloc _) ⟨w3.heap.size, 0, none⟩ 1 1 [.pointer (some ⟨s, 0, none⟩)] rfl rfl (cells_new _ _ _) (by simp [Value.oneCell']) (by simp [maxLen]; omega) (by omega) (by simp; omega) ?_)
    intro v' w5 ho hg _ hat
    obtain ⟨g1, Cg, rfl⟩ : ∃ g' C', v' = .slice (some ⟨g', 0, none⟩) (xs.length + 1) C' := by
      obtain ⟨_, ⟨_, h0⟩ | ⟨g', C', cur, hv, _⟩⟩ := ho
      · omega
      · exact ⟨g', C', hv⟩
    obtain ⟨o1, D6⟩ := HD.out.addS ho hg hat
    have k1 : w5.cell? ⟨d, 2, none⟩ = some (.slice a1 xs.length C1) := o1.cell (i := 2) (by decide)
    have kf := o1.frozen 2
    clear ho hg hat o1 HD c2 hw0
    go_upto_region 8 with fail
    generalize w5.setCell ⟨d, 2, none⟩ (.slice (some ⟨g1, 0, none⟩) (xs.length + 1) Cg) = w6 at *
    have c3 := D6.c3
    have hw0 := D6.be.size
    have HD : Hid _ := D6
    clear D6 k1 kf
    go_wp2_with (at_builtin; refine wpList_append_own_at _ rfl _ _ 45 rfl W0.heap.size 74 i1 (.pointer none) 1 8 Tryd.underlying45 HI1.out.1 HI1.out.2.1 HI1.out.2.2.1 HI1.out.2.2.2 rfl (by decide) _ _ _ rfl (HD.out.rt.alloc _) ⟨w6.heap.size, 0, none⟩ 1 1 [.pointer (some ⟨t, 0, none⟩)] rfl rfl (cells_new _ _ _) (by simp [Value.oneCell']) (by simp [maxLen]; omega) (by omega) (by simp; omega) ?_)
    intro v' w7 ho hg _ hat
    obtain ⟨g2, Ct, rfl⟩ : ∃ g' C', v' = .slice (some ⟨g', 0, none⟩) (ys.length + 1) C' := by
      obtain ⟨_, ⟨_, h0⟩ | ⟨g', C', cur, hv, _⟩⟩ := ho
      · omega
      · exact ⟨g', C', hv⟩
    obtain ⟨o1, D8⟩ := HD.out.addT ho hg hat
    have k1 : w7.cell? ⟨d, 3, none⟩ = some (.slice a2 ys.length C2) := o1.cell (i := 3) (by decide)
    have kf := o1.frozen 3
    have HF : Hid (DK W0 (w7.setCell ⟨d, 3, none⟩ (.slice (some ⟨g2, 0, none⟩) (ys.length + 1) Ct)) d b r n) := ⟨g, h, M, _, _, LL, by rw [HE.out.1, HE.out.2.1]; exact D8, HE.out.2.2⟩
    clear ho hg hat o1 HD c3 hw0 D8
    go_wp2
    go_ret
    exact ⟨rfl, HF.out⟩
  · have hxi : decide (((sps L).length : Int) < 6) = false := decide_eq_false (by omega)
    have HF : Hid (DK W0 w3 d b r n) := ⟨g, h, M, vs, vt, L, D3, hl⟩
    obtain ⟨a1, C1, rfl⟩ := own_slice D3.rs
    have c2 := D3.c2
    clear D3 HK hsl htl h6
    generalize (sps L).length = ll at *
    go_wp2
    go_ret
    exact ⟨rfl, HF.out⟩
end Go.Proofs.YtlnfhnahnmblmabDoor
