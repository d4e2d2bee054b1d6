/-
  desk.slides: what is asked of a slide.
-/
import Derived.Test.YtlnfhnahnmblmabDoorN16
set_option linter.unusedVariables false
set_option maxRecDepth 100000
namespace Go.Proofs.YtlnfhnahnmblmabDoor
open Go.RowKit Go.Shelf

/-- Back is the same on both sides. -/
theorem back_same (N : Nat → Bool) (base e : Nat) (z : Int) (hz : z ≤ 9223372036854775807) : ∃ (v : Int) (ok : Bool),
    (∀ s kb kg q w, Sl w s kb kg q base e N → Laid w → Calls Tryd.prog 36 #[.pointer (some ⟨s, 0, none⟩), .int .i64 z] w fun r w' => r = .returned (.tuple #[.int .i64 v, .bool ok]) ∧ Below w.heap.size w w') ∧
    (∀ t lo p C w, Rs w t base e lo N p C → Calls Tryd.prog 37 #[.pointer (some ⟨t, 0, none⟩), .int .i64 z] w fun r w' => r = .returned (.tuple #[.int .i64 v, .bool ok]) ∧ Below w.heap.size w w') := by
  by_cases h : z < base ∨ (base : Int) + (rk N e : Nat) ≤ z
  · exact ⟨0, false, fun s kb kg q w hS hL => back_out s kb kg q base e N z h w hS, fun t lo p C w hR => rback_out t base e lo N p C z h hz w hR⟩
  · obtain ⟨k, rfl⟩ : ∃ k : Nat, z = ((base + k : Nat) : Int) := ⟨(z - base).toNat, by omega⟩
    obtain ⟨a, h1, h2, h3⟩ := rk_at (M := N) e k (by omega)
    refine ⟨a, true, fun s kb kg q w hS hL => ?_, fun t lo p C w hR => ?_⟩
    · rw [← h3]; exact back_in s kb kg q base e a N h2 w hS hL
    · rw [← h3]; exact rback_in t base e lo a N h2 p C w hR

/-- Which slide is asked. -/
def sidx (B : Int) (len : Nat) : Nat := (B.tmod len).toNat

theorem sidx_lt (B : Int) (len : Nat) (h : 0 < len) : sidx B len < len := by
  unfold sidx
  have := Int.tmod_lt_of_pos B (show (0 : Int) < len by omega)
  omega

set_option maxHeartbeats 8000000 in
theorem dslides_ask (W0 : World) (d b g r h n : Nat) (M : Nat → Bool) (vs vt : Value) (L : List Sr2) (hl : L.length ≤ 6) (K A B C : Int) (hK : K ≠ 8) (hA : A ≤ 9223372036854775807) (w : World) (hD : Dk W0 w d b g r h n M vs vt (sps L) (tps L) L) (hL : Laid W0) :
    Calls Tryd.prog 24 #[.pointer (some ⟨d, 0, none⟩), .agg #[.int .i64 K, .int .i64 A, .int .i64 B, .int .i64 C]] w fun e w' => e = .returned (.bool true) ∧ DK W0 w' d b r n := by
  have b0 : Below w.heap.size w (w.alloc (.cells #[.int .i64 K, .int .i64 A, .int .i64 B, .int .i64 C] 30)) := Below.alloc (Below.refl _ _) (Nat.le_refl _) _
  have D0 := hD.below b0
  have HB : Hid _ := b0
  have x0 : (w.alloc (.cells #[.int .i64 K, .int .i64 A, .int .i64 B, .int .i64 C] 30)).cell? ⟨w.heap.size, 0, none⟩ = some (.int .i64 K) := by simp
  have x1 : (w.alloc (.cells #[.int .i64 K, .int .i64 A, .int .i64 B, .int .i64 C] 30)).cell? ⟨w.heap.size, 1, none⟩ = some (.int .i64 A) := by simp
  have x2 : (w.alloc (.cells #[.int .i64 K, .int .i64 A, .int .i64 B, .int .i64 C] 30)).cell? ⟨w.heap.size, 2, none⟩ = some (.int .i64 B) := by simp
  have k8 : (K == 8) = false := by simpa using hK
  have hsl : (sps L).length = L.length := by simp [sps]
  have htl : (tps L).length = L.length := by simp [tps]
  have c2 := D0.c2
  obtain ⟨a1, C1, hvs⟩ := own_slice D0.rs
  rw [hvs, hsl] at c2
  have HD : Hid (Dk W0 (w.alloc (.cells #[.int .i64 K, .int .i64 A, .int .i64 B, .int .i64 C] 30)) d b g r h n M vs vt (sps L) (tps L) L) := D0
  have HV : Hid (vs = .slice a1 (sps L).length C1 ∧ (sps L).length = L.length ∧ (tps L).length = L.length) := ⟨hvs, hsl, htl⟩
  have HA : Hid (A ≤ 9223372036854775807) := hA
  clear hD b0 hK D0 hvs hsl htl hA
  go_enter Tryd.func24, Tryd.ntmps24
  go_upto_region 10 with fail
  generalize w.alloc (.cells #[.int .i64 K, .int .i64 A, .int .i64 B, .int .i64 C] 30) = w1 at *
  generalize w.heap.size = P at *
  by_cases h0 : L.length = 0
  · have HF : Hid (DK W0 w1 d b r n) := ⟨g, h, M, vs, vt, L, HD.out, hl⟩
    rw [h0] at c2
    clear HD HV x0 x1 x2
    go_wp2
    go_ret
    exact ⟨rfl, HF.out⟩
  · obtain ⟨len, hlen⟩ : ∃ len, len = L.length := ⟨_, rfl⟩
    rw [← hlen] at c2 h0 hl
    have HLn : Hid (len = L.length) := hlen
    have hz : ((len : Int) == 0) = false := by simpa using h0
    clear hlen
    go_upto_region 12 with fail
    go_cut [9] from 97 to 104 (fun v wc => v = .int .i64 (B.tmod len) ∧ Hid (∃ k, wc = w1.drewN k))
    case first =>
      go_quiet (fail)
      go_wp2_with fail
      go_meet
      exact ⟨rfl, ⟨_, rfl⟩⟩
    case rest =>
    obtain ⟨rfl, hwd⟩ := hcut
    have bc : Below w1.heap.size w1 wc := by
      obtain ⟨k, hk⟩ := hwd.out
      exact below_of_eq hk.symm
    have hidx := sidx_lt B len (by omega)
    have D2 := HD.out.below bc
    have y0 := (bc.cell (World.block_lt_of_cell? _ _ x0)).trans x0
    have y1 := (bc.cell (World.block_lt_of_cell? _ _ x1)).trans x1
    apply_assumption
    refine wp_seq_k ?_
    intro Kx hKx
    clear hwd bc x0 x1 x2 c2 HD
    go_cut [9] from 105 to 106 (fun v wd => v = .int .i64 (sidx B len : Nat) ∧ Hid (wd = wc))
    case first =>
      by_cases hneg : B.tmod len < 0
      · have hs0 : Hid ((sidx B len : Nat) = 0) := by unfold sidx; exact (show _ = _ by omega)
        clear D2 y0 y1 hidx
        go_wp2_with fail
        go_meet
        exact ⟨by rw [hs0.out]; rfl, rfl⟩
      · have hd : decide (B.tmod len < 0) = false := decide_eq_false hneg
        have hs0 : Hid (((sidx B len : Nat) : Int) = B.tmod len) := by unfold sidx; exact (show _ = _ by omega)
        clear D2 y0 y1 hidx
        go_wp2_with fail
        go_meet
        exact ⟨by rw [hs0.out], rfl⟩
    case rest =>
    obtain ⟨rfl, hwe⟩ := hcut
    have hwe' := hwe.out
    subst hwe'
    clear hwe
    apply hKx
    clear hKx
    -- the slide that is asked
    obtain ⟨x, hx⟩ : ∃ x, L[sidx B len]? = some x := ⟨_, List.getElem?_eq_getElem (by rw [← HLn.out]; exact hidx)⟩
    have hK := D2.kp x (List.mem_of_getElem? hx)
    obtain ⟨gs, Cs, hvs, hcs, us⟩ := own_cell D2.rs (by rw [HV.out.2.1, ← HLn.out]; omega)
    obtain ⟨gt, Ct, hvt, hct, ut⟩ := own_cell D2.rt (by rw [HV.out.2.2, ← HLn.out]; omega)
    have us' := us (sidx B len) (.pointer (some ⟨x.s, 0, none⟩)) (by simp [sps, hx])
    have ut' := ut (sidx B len) (.pointer (some ⟨x.t, 0, none⟩)) (by simp [tps, hx])
    have c2 := D2.c2
    have c3 := D2.c3
    rw [hvs, HV.out.2.1, ← HLn.out] at c2
    rw [hvt, HV.out.2.2, ← HLn.out] at c3
    rw [HV.out.2.1, ← HLn.out] at hcs
    rw [HV.out.2.2, ← HLn.out] at hct
    have HK : Hid (Kp wc (dfp d b g r h vs vt) x) := hK
    have HD : Hid (Dk W0 wc d b g r h n M vs vt (sps L) (tps L) L) := D2
    have HF : Hid (∀ w', Below wc.heap.size wc w' → DK W0 w' d b r n) := fun w' l => ⟨g, h, M, vs, vt, L, D2.below l, by rw [← HLn.out]; exact hl⟩
    have hii : ((sidx B len : Nat) : Int) < len := by omega
    clear D2 hK us ut hvs hvt hx HV HLn
    generalize sidx B len = ix at *
    by_cases k9 : K = 9
    · subst k9
      have b1 := below_drewN (Below.refl wc.heap.size wc) 1
      have hc := to_any x.s x.kb x.kg x.q x.base x.e x.N A (wc.drewN 1) (HK.out.sl.below b1) ((HD.out.laid hL).below b1)
      have Hb1 : Hid (Below wc.heap.size wc (wc.drewN 1)) := b1
      generalize htv : tov x.N x.base A = tv at *
      generalize hhb : hasB x.N A = hb at *
      go_upto_region 17 with fail
      refine quiet_call 9 mixed (by kernel_rfl) ?_
      simp only [List.take_succ_cons, List.take_zero, List.drop_succ_cons, List.drop_zero]
      repeat (go_big_quiet_step (fail))
      refine wpQuiet_nil ?_
      go_wp2_with fail
      refine hc.mono ?_
      rintro e w2 ⟨rfl, b2⟩
      have bb : Below wc.heap.size wc w2 := Hb1.out.trans (b2.mono Hb1.out.size)
      have z1 := (bb.cell (World.block_lt_of_cell? _ _ y1)).trans y1
      have z3 := (bb.cell (World.block_lt_of_cell? _ _ c3)).trans c3
      have zt := (bb.cell (World.block_lt_of_cell? _ _ ut')).trans ut'
      have bn := below_drewN (Below.refl w2.heap.size w2) 1
      have hc2 := rto_any x.t x.base x.e 0 x.N x.p x.C A (w2.drewN 1) ((HK.out.rs.below bb).below bn)
      rw [htv, hhb] at hc2
      have Hbb : Hid (Below wc.heap.size wc w2 ∧ Below w2.heap.size w2 (w2.drewN 1)) := ⟨bb, bn⟩
      clear hc b2 bb bn y0 y1 c2 c3 us' ut' Hb1 HK HD htv hhb
      go_wp2_with fail
      refine thenQuiet_mk ?_
      repeat (go_big_quiet_step (fail))
      refine wpQuiet_nil ?_
      go_upto_region 18 with fail
      refine quiet_call 9 mixed (by kernel_rfl) ?_
      simp only [List.take_succ_cons, List.take_zero, List.drop_succ_cons, List.drop_zero]
      repeat (go_big_quiet_step (fail))
      refine wpQuiet_nil ?_
      go_wp2_with fail
      refine hc2.mono ?_
      rintro e w3 ⟨rfl, hw⟩
      have HG : Hid (DK W0 w3 d b r n) := by
        rw [← hw]
        exact HF.out _ (Hbb.out.1.trans (Hbb.out.2.mono Hbb.out.1.size))
      clear hc2 hw z1 z3 zt Hbb HF
      go_wp2_with fail
      refine thenQuiet_mk ?_
      repeat (go_big_quiet_step (fail))
      refine wpQuiet_nil ?_
      go_wp2
      go_ret
      exact ⟨by simp, HG.out⟩
    · have k9' : (K == 9) = false := by simpa using k9
      clear k9
      by_cases k10 : K = 10
      · subst k10
        obtain ⟨v, ok, hb1, hb2⟩ := back_same x.N x.base x.e A HA.out
        have b1 := below_drewN (Below.refl wc.heap.size wc) 1
        have hc := hb1 x.s x.kb x.kg x.q (wc.drewN 1) (HK.out.sl.below b1) ((HD.out.laid hL).below b1)
        have Hb1 : Hid (Below wc.heap.size wc (wc.drewN 1)) := b1
        have HB2 : Hid (∀ t lo p C w, Rs w t x.base x.e lo x.N p C → Calls Tryd.prog 37 #[.pointer (some ⟨t, 0, none⟩), .int .i64 A] w fun r w' => r = .returned (.tuple #[.int .i64 v, .bool ok]) ∧ Below w.heap.size w w') := hb2
        clear hb1 hb2 b1
        go_upto_region 21 with fail
        refine quiet_call 9 mixed (by kernel_rfl) ?_
        simp only [List.take_succ_cons, List.take_zero, List.drop_succ_cons, List.drop_zero]
        repeat (go_big_quiet_step (fail))
        refine wpQuiet_nil ?_
        go_wp2_with fail
        refine hc.mono ?_
        rintro e w2 ⟨rfl, b2⟩
        have bb : Below wc.heap.size wc w2 := Hb1.out.trans (b2.mono Hb1.out.size)
        have z1 := (bb.cell (World.block_lt_of_cell? _ _ y1)).trans y1
        have z3 := (bb.cell (World.block_lt_of_cell? _ _ c3)).trans c3
        have zt := (bb.cell (World.block_lt_of_cell? _ _ ut')).trans ut'
        have bn := below_drewN (Below.refl w2.heap.size w2) 1
        have hc2 := HB2.out x.t 0 x.p x.C (w2.drewN 1) ((HK.out.rs.below bb).below bn)
        have Hbb : Hid (Below wc.heap.size wc (w2.drewN 1)) := bb.trans (bn.mono bb.size)
        clear hc b2 bb bn y0 y1 c2 c3 us' ut' Hb1 HK HD
        go_wp2_with fail
        refine thenQuiet_mk ?_
        repeat (go_big_quiet_step (fail))
        refine wpQuiet_nil ?_
        go_upto_region 22 with fail
        refine quiet_call 9 mixed (by kernel_rfl) ?_
        simp only [List.take_succ_cons, List.take_zero, List.drop_succ_cons, List.drop_zero]
        repeat (go_big_quiet_step (fail))
        refine wpQuiet_nil ?_
        go_wp2_with fail
        refine hc2.mono ?_
        rintro e w3 ⟨rfl, b3⟩
        have HG : Hid (DK W0 w3 d b r n) := HF.out _ (Hbb.out.trans (b3.mono Hbb.out.size))
        clear hc2 b3 z1 z3 zt Hbb HF
        go_wp2_with fail
        refine thenQuiet_mk ?_
        repeat (go_big_quiet_step (fail))
        refine wpQuiet_nil ?_
        go_wp2
        go_ret
        exact ⟨by simp, HG.out⟩
      · have k10' : (K == 10) = false := by simpa using k10
        clear k10
        have hc := total_any x.s x.kb x.kg x.q x.base x.e x.N wc HK.out.sl
        have ct : wc.cell? ⟨x.t, 1, none⟩ = some (.slice x.p (rk x.N x.e) x.C) := HK.out.own.cell (i := 1) (by decide)
        have HG : Hid (DK W0 wc d b r n) := HF.out _ (Below.refl _ _)
        clear HF HD HK
        generalize rk x.N x.e = ct0 at *
        go_wp2_with fail
        refine hc.mono ?_
        rintro e w2 ⟨rfl, rfl⟩
        clear hc
        go_wp2
        go_ret
        exact ⟨by simp, HG.out⟩
end Go.Proofs.YtlnfhnahnmblmabDoor
