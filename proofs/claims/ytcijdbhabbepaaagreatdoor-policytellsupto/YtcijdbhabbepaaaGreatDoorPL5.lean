/-
  Policy: what a turn does next: big.
-/
import Derived.Test.YtcijdbhabbepaaaGreatDoorPL3
set_option linter.unusedVariables false
set_option maxRecDepth 20000
namespace Go.Proofs.YtcijdbhabbepaaaGreatDoor.Po
open Go.RowKit Go.Proofs.YtcijdbhabbepaaaGreatDoor.Kg

set_option maxHeartbeats 8000000 in
theorem pbig_any {w : World} {base b : Nat} {v : Value} {g : Nat} {k : Task} {t : Tst} (h : Pt w base b v g k t) (hov : t.ov = false) (hm : 0 ≤ k.most ∧ k.most ≤ 4294967296) (hw : 2 ≤ k.words ∧ k.words < 9223372036854775808) (x : Vw) :
    Calls Tryz.prog 73 #[.pointer (some ⟨b, 0, none⟩), vv x] w fun e w' => Did w w' base b v g k t (k.bigs t x) e := by
  obtain ⟨R, hR⟩ : ∃ R, R = k.bigs t x := ⟨_, rfl⟩
  rw [← hR]
  have HRs : Hid (R = k.bigs t x) := hR
  clear hR
  obtain ⟨w0, hw0⟩ : ∃ x9, x9 = w.alloc (.cells #[.int .i64 x.er, .int .i64 x.yo, .int .i64 x.te, .int .i64 x.tr] 54) := ⟨_, rfl⟩
  have hb0 : Below w.heap.size w w0 := by rw [hw0]; exact Below.alloc (Below.refl _ _) (Nat.le_refl _) _
  have hg0 : w0.heap[w.heap.size]? = some (.cells #[.int .i64 x.er, .int .i64 x.yo, .int .i64 x.te, .int .i64 x.tr] 54 (0, 0)) := by rw [hw0]; exact heap_alloc_new w _
  have h0 := h.below hb0
  have e2 : w0.cell? ⟨w.heap.size, 2, none⟩ = some (.int .i64 x.te) := heap_cell hg0 2
  have c1 := h0.cell 1 (.int .i64 k.most) rfl
  have c2 := h0.cell 2 (.int .i64 k.words) rfl
  have HP : Hid (Pt w0 base b v g k t) := h0
  have HT : Hid (Kg.Touch [b] w w0) := Kg.Touch.of_below hb0 [b]
  have HG : Hid (w0.heap[w.heap.size]? = some (.cells #[.int .i64 x.er, .int .i64 x.yo, .int .i64 x.te, .int .i64 x.tr] 54 (0, 0))) := hg0
  have Hov : Hid (t.ov = false) := hov
  clear h h0 hb0 hov hg0
  go_enter Tryz.func73, Tryz.ntmps73
  go_upto_region 1 with fail
  rw [← hw0]
  clear hw0
  go_quiet (fail)
  have HP1 : Hid (Pt (w0.drewN nq) base b v g k t) := HP.out.below ((Kg.Touch.drewN [] w0 nq).below (Nat.le_refl _) (fun k hk => by cases hk))
  have HT1 : Hid (Kg.Touch [b] w (w0.drewN nq)) := HT.out.trans (Kg.Touch.drewN _ _ _)
  have HG1 : Hid ((w0.drewN nq).heap[w.heap.size]? = some (.cells #[.int .i64 x.er, .int .i64 x.yo, .int .i64 x.te, .int .i64 x.tr] 54 (0, 0))) := HG.out
  clear HP HT HG c2 e2 c1
  generalize w0.drewN nq = w1 at HP1 HT1 HG1 ⊢
  have HP2 : Hid (Pt w1.drew base b v g k t) := HP1.out.below ((Kg.Touch.drew [] w1).below (Nat.le_refl _) (fun k hk => by cases hk))
  have HT2 : Hid (Kg.Touch [b] w w1.drew) := HT1.out.trans (Kg.Touch.drew _ _)
  have hr := pran_any HP2.out 3
  have e3 := heap_cell HG1.out 3
  simp only [List.getElem?_toArray, List.getElem?_cons_zero, List.getElem?_cons_succ] at e3
  have c2 := HP1.out.cell 2 (.int .i64 k.words) rfl
  by_cases b1 : k.words ≤ x.tr
  · by_cases b3 : x.te ≤ k.most - k.words
    · have e : Hid (R = (2, t.close)) := by
        have h := HRs.out; unfold Task.bigs at h; rw [if_pos ⟨b1, .inr b3⟩] at h; exact h
      rw [decide_eq_true b3]
      go_upto_region 2 with fail
      refine quiet_tail 14 mixed (by kernel_rfl) ?_
      simp only [List.take_succ_cons, List.take_zero, List.drop_succ_cons, List.drop_zero]
      repeat (go_big_quiet_step (exact hr _))
      refine wpQuiet_nil ?_
      clear hr
      clear e3 c2
      generalize w1.drew = w2 at HP2 HT2 ⊢
      have q := lastly_any HP2.out Hov.out 2
      go_wp2_with fail
      refine q.mono ?_
      rintro e9 w3 ⟨rfl, h1, h2⟩
      have HA : Hid (Pt w3 base b v g k t.close ∧ Kg.Touch [b] w w3) := ⟨h1, HT2.out.trans h2⟩
      clear q h1 h2
      go_wp2
      go_returns
      exact ⟨2, t.close, rfl, HA.out.1, HA.out.2, by rw [e.out, app0 _ _ (by decide)], rfl⟩
    · rw [decide_eq_false b3]
      by_cases m3 : 3 ∈ t.ran
      · have e : Hid (R = (2, t.close)) := by
          have h := HRs.out; unfold Task.bigs at h; rw [if_pos ⟨b1, .inl m3⟩] at h; exact h
        rw [decide_eq_true m3] at hr
        go_upto_region 2 with fail
        refine quiet_tail 14 mixed (by kernel_rfl) ?_
        simp only [List.take_succ_cons, List.take_zero, List.drop_succ_cons, List.drop_zero]
        repeat (go_big_quiet_step (exact hr _))
        refine wpQuiet_nil ?_
        clear hr
        clear e3 c2
        generalize w1.drew = w2 at HP2 HT2 ⊢
        have q := lastly_any HP2.out Hov.out 2
        go_wp2_with fail
        refine q.mono ?_
        rintro e9 w3 ⟨rfl, h1, h2⟩
        have HA : Hid (Pt w3 base b v g k t.close ∧ Kg.Touch [b] w w3) := ⟨h1, HT2.out.trans h2⟩
        clear q h1 h2
        go_wp2
        go_returns
        exact ⟨2, t.close, rfl, HA.out.1, HA.out.2, by rw [e.out, app0 _ _ (by decide)], rfl⟩
      · have e : Hid (R = (5, t.cyc 3)) := by
          have h := HRs.out; unfold Task.bigs at h; rw [if_neg (fun q => b3 (q.2.resolve_left m3)), if_pos m3] at h; exact h
        rw [decide_eq_false m3] at hr
        go_upto_region 2 with fail
        refine quiet_tail 14 mixed (by kernel_rfl) ?_
        simp only [List.take_succ_cons, List.take_zero, List.drop_succ_cons, List.drop_zero]
        repeat (go_big_quiet_step (exact hr _))
        refine wpQuiet_nil ?_
        clear e3 c2
        generalize w1.drew = w2 at HP2 HT2 hr ⊢
        go_wp2_with fail
        refine hr.mono ?_
        rintro e9 w9 ⟨rfl, rfl⟩
        clear hr
        go_wp2
        go_returns
        exact ⟨5, t, rfl, HP2.out, HT2.out, by rw [e.out, app_ne _ _ (by decide)]; rfl, rfl⟩
  · have b1' : decide (k.words ≤ x.tr) = false := decide_eq_false b1
    by_cases m3 : 3 ∈ t.ran
    · have e : Hid (R = (6, t.close)) := by
        have h := HRs.out; unfold Task.bigs at h; rw [if_neg (fun q => b1 q.1), if_neg (fun q => q m3)] at h; exact h
      rw [decide_eq_true m3] at hr
      go_upto_region 2 with fail
      refine quiet_tail 14 mixed (by kernel_rfl) ?_
      simp only [List.take_succ_cons, List.take_zero, List.drop_succ_cons, List.drop_zero]
      repeat (go_big_quiet_step (exact hr _))
      refine wpQuiet_nil ?_
      clear e3 c2
      generalize w1.drew = w2 at HP2 HT2 hr ⊢
      go_wp2_with fail
      refine hr.mono ?_
      rintro e9 w9 ⟨rfl, rfl⟩
      clear hr
      have q := lastly_any HP2.out Hov.out 6
      go_wp2_with fail
      refine q.mono ?_
      rintro e9 w3 ⟨rfl, h1, h2⟩
      have HA : Hid (Pt w3 base b v g k t.close ∧ Kg.Touch [b] w w3) := ⟨h1, HT2.out.trans h2⟩
      clear q h1 h2
      go_wp2
      go_ret
      exact ⟨6, t.close, rfl, HA.out.1, HA.out.2, by rw [e.out, app0 _ _ (by decide)], rfl⟩
    · have e : Hid (R = (5, t.cyc 3)) := by
        have h := HRs.out; unfold Task.bigs at h; rw [if_neg (fun q => b1 q.1), if_pos m3] at h; exact h
      rw [decide_eq_false m3] at hr
      go_upto_region 2 with fail
      refine quiet_tail 14 mixed (by kernel_rfl) ?_
      simp only [List.take_succ_cons, List.take_zero, List.drop_succ_cons, List.drop_zero]
      repeat (go_big_quiet_step (exact hr _))
      refine wpQuiet_nil ?_
      clear e3 c2
      generalize w1.drew = w2 at HP2 HT2 hr ⊢
      go_wp2_with fail
      refine hr.mono ?_
      rintro e9 w9 ⟨rfl, rfl⟩
      clear hr
      go_wp2
      go_returns
      exact ⟨5, t, rfl, HP2.out, HT2.out, by rw [e.out, app_ne _ _ (by decide)]; rfl, rfl⟩

end Go.Proofs.YtcijdbhabbepaaaGreatDoor.Po
