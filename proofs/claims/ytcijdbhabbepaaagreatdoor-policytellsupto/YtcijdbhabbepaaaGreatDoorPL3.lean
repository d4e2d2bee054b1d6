/-
  Policy: what a turn does next: closing, major, small, big, forced.
-/
import Derived.Test.YtcijdbhabbepaaaGreatDoorPL2
set_option linter.unusedVariables false
set_option maxRecDepth 20000
namespace Go.Proofs.YtcijdbhabbepaaaGreatDoor.Po
open Go.RowKit Go.Proofs.YtcijdbhabbepaaaGreatDoor.Kg

/-- What an action answers, and what it does. -/
def Did (w w' : World) (base b : Nat) (v : Value) (g : Nat) (k : Task) (t : Tst) (R : Int × Tst) (e : Ending) : Prop :=
  ∃ s t', e = .returned (.int .i64 s) ∧ Pt w' base b v g k t' ∧ Kg.Touch [b] w w' ∧ R = (s, t'.app s) ∧ t'.ran = t.ran

theorem Did.of {w w0 w' : World} {base b : Nat} {v : Value} {g : Nat} {k : Task} {t : Tst} {R : Int × Tst} {e : Ending} (hb : Kg.Touch [b] w w0) (h : Did w0 w' base b v g k t R e) : Did w w' base b v g k t R e := by
  obtain ⟨s, t', h1, h2, h3, h4, h5⟩ := h
  exact ⟨s, t', h1, h2, hb.trans h3, h4, h5⟩

abbrev vbox (x : Vw) : Obj := .cells #[.int .i64 x.er, .int .i64 x.yo, .int .i64 x.te, .int .i64 x.tr] 54

theorem touch_box (b : Nat) (w : World) (x : Vw) : Kg.Touch [b] w (w.alloc (vbox x)) := Kg.Touch.alloc _ _ _

theorem app0 (t : Tst) (s : Int) (h : cyo s = 0) : t.app s = t := by unfold Tst.app; rw [if_pos h]
theorem app_ne (t : Tst) (s : Int) (h : cyo s ≠ 0) : t.app s = t.cyc (cyo s) := by unfold Tst.app; rw [if_neg h]

theorem act_same {k : Task} {t : Tst} (g : Nat) (hov : t.ov = false) (hc : t.cl = true ∨ k.kind = 5) : act k t.close g = act k t g := by
  rw [act_close g hov]
  unfold act
  rw [if_neg (by simp [hov]), if_pos hc]

theorem Pt.close {w : World} {base b : Nat} {v : Value} {g : Nat} {k : Task} {t : Tst} (h : Pt w base b v g k t) (hov : t.ov = false) (hc : t.cl = true ∨ k.kind = 5) : Pt w base b v g k t.close :=
  ⟨by rw [act_same g hov hc]; exact h.at_, h.row, h.box, h.gv, h.gl, h.lo, h.le⟩

set_option maxHeartbeats 8000000 in
theorem closing_any {w : World} {base b : Nat} {v : Value} {g : Nat} {k : Task} {t : Tst} (h : Pt w base b v g k t) (hov : t.ov = false) (hc : t.cl = true ∨ k.kind = 5) (x : Vw) :
    Calls Tryz.prog 76 #[.pointer (some ⟨b, 0, none⟩), vv x] w fun e w' => Did w w' base b v g k t (k.shut t x) e := by
  obtain ⟨R, hR⟩ : ∃ R, R = k.shut t x := ⟨_, rfl⟩
  rw [← hR]
  have HRs : Hid (R = k.shut t x) := hR
  clear hR
  obtain ⟨w0, hw0⟩ : ∃ x9, x9 = w.alloc (.cells #[.int .i64 x.er, .int .i64 x.yo, .int .i64 x.te, .int .i64 x.tr] 54) := ⟨_, rfl⟩
  have hb0 : Below w.heap.size w w0 := by rw [hw0]; exact Below.alloc (Below.refl _ _) (Nat.le_refl _) _
  have h0 := h.below hb0
  have e2 : w0.cell? ⟨w.heap.size, 2, none⟩ = some (.int .i64 x.te) := by rw [hw0]; simp
  have c1 := h0.cell 1 (.int .i64 k.most) rfl
  have HP : Hid (Pt w0.drew base b v g k t) := h0.below ((Kg.Touch.drew [] w0).below (Nat.le_refl _) (fun k hk => by cases hk))
  have HT : Hid (Kg.Touch [b] w w0.drew) := (Kg.Touch.of_below hb0 [b]).trans (Kg.Touch.drew _ _)
  have hr := pran_any HP.out 3
  have he := enter_over HP.out
  have Hov : Hid (t.ov = false ∧ (t.cl = true ∨ k.kind = 5)) := ⟨hov, hc⟩
  clear h h0 hb0 hov hc
  by_cases m : k.most < x.te
  · by_cases m3 : 3 ∉ t.ran
    · have e : Hid (R = (5, t.close.cyc 3)) := by
        have h := HRs.out; unfold Task.shut at h; rw [if_pos ⟨Hov.out.1, m, m3⟩] at h; exact h
      rw [decide_eq_false m3] at hr
      go_enter Tryz.func76, Tryz.ntmps76
      go_upto_region 1 with fail
      rw [← hw0]
      clear hw0
      refine quiet_tail 11 mixed (by kernel_rfl) ?_
      simp only [List.take_succ_cons, List.take_zero, List.drop_succ_cons, List.drop_zero]
      repeat (go_big_quiet_step (exact hr _))
      refine wpQuiet_nil ?_
      clear hr he
      go_wp2
      go_returns
      exact ⟨5, t.close, rfl, HP.out.close Hov.out.1 Hov.out.2, HT.out, by rw [e.out, app_ne _ _ (by decide)]; rfl, rfl⟩
    · have e : Hid (R = (7, { t.close with ov := true })) := by
        have h := HRs.out; unfold Task.shut at h; rw [if_neg (fun q => m3 q.2.2)] at h; exact h
      rw [decide_eq_true (Decidable.not_not.1 m3)] at hr
      go_enter Tryz.func76, Tryz.ntmps76
      go_upto_region 1 with fail
      rw [← hw0]
      clear hw0
      refine quiet_tail 11 mixed (by kernel_rfl) ?_
      simp only [List.take_succ_cons, List.take_zero, List.drop_succ_cons, List.drop_zero]
      repeat (go_big_quiet_step (exact hr _))
      refine wpQuiet_nil ?_
      clear hr
      go_wp2_with fail
      refine he.mono ?_
      rintro e9 w2 ⟨rfl, h1, h2⟩
      have HA : Hid (Pt w2 base b v g k { t.close with ov := true } ∧ Kg.Touch [b] w w2) := ⟨h1, HT.out.trans h2⟩
      clear he h1 h2
      go_wp2
      go_ret
      exact ⟨7, { t.close with ov := true }, rfl, HA.out.1, HA.out.2, by rw [e.out, app0 _ _ (by decide)], rfl⟩
  · have m' : decide (k.most < x.te) = false := decide_eq_false m
    have e : Hid (R = (7, { t.close with ov := true })) := by
      have h := HRs.out; unfold Task.shut at h; rw [if_neg (fun q => m q.2.1)] at h; exact h
    go_enter Tryz.func76, Tryz.ntmps76
    go_upto_region 1 with fail
    rw [← hw0]
    clear hw0
    refine quiet_tail 11 mixed (by kernel_rfl) ?_
    simp only [List.take_succ_cons, List.take_zero, List.drop_succ_cons, List.drop_zero]
    repeat (go_big_quiet_step (exact hr _))
    refine wpQuiet_nil ?_
    clear hr
    go_wp2_with fail
    refine he.mono ?_
    rintro e9 w2 ⟨rfl, h1, h2⟩
    have HA : Hid (Pt w2 base b v g k { t.close with ov := true } ∧ Kg.Touch [b] w w2) := ⟨h1, HT.out.trans h2⟩
    clear he h1 h2
    go_wp2
    go_ret
    exact ⟨7, { t.close with ov := true }, rfl, HA.out.1, HA.out.2, by rw [e.out, app0 _ _ (by decide)], rfl⟩

theorem major_any {w : World} {base b : Nat} {v : Value} {g : Nat} {k : Task} {t : Tst} (h : Pt w base b v g k t) (hov : t.ov = false) (x : Vw) :
    Calls Tryz.prog 75 #[.pointer (some ⟨b, 0, none⟩), vv x] w fun e w' => Did w w' base b v g k t (5, t.close.cyc 3) e := by
  have hb0 : Below w.heap.size w (w.alloc (.cells #[.int .i64 x.er, .int .i64 x.yo, .int .i64 x.te, .int .i64 x.tr] 54)) := Below.alloc (Below.refl _ _) (Nat.le_refl _) _
  have q := lastly_any (h.below hb0) hov 5
  have HT : Hid (Kg.Touch [b] w (w.alloc (.cells #[.int .i64 x.er, .int .i64 x.yo, .int .i64 x.te, .int .i64 x.tr] 54))) := Kg.Touch.of_below hb0 _
  clear h hb0
  go_enter Tryz.func75, Tryz.ntmps75
  go_wp2_with fail
  refine q.mono ?_
  rintro e9 w2 ⟨rfl, h1, h2⟩
  have HA : Hid (Pt w2 base b v g k t.close ∧ Kg.Touch [b] w w2) := ⟨h1, HT.out.trans h2⟩
  clear q h1 h2
  go_wp2
  go_ret
  exact ⟨5, t.close, rfl, HA.out.1, HA.out.2, by rw [app_ne _ _ (by decide)]; rfl, rfl⟩

end Go.Proofs.YtcijdbhabbepaaaGreatDoor.Po
