/-
  Policy: the document's Next.
-/
import Derived.Test.YtcijdbhabbepaaaGreatDoorPR4
set_option linter.unusedVariables false
set_option maxRecDepth 20000
namespace Go.Proofs.YtcijdbhabbepaaaGreatDoor.Po
open Go.RowKit Go.Proofs.YtcijdbhabbepaaaGreatDoor.Kg

theorem opn_cases (k : Task) (t : Tst) (x : Vw) : (k.opn t x).1 ≠ 0 ∨ k.opn t x = (0, t) := by
  unfold Task.opn Task.small Task.bigs
  repeat' split
  all_goals first | (left; simp; done) | (right; rfl)

/-- The box of a view is written over. -/
theorem box_set {w0 : World} {g : Nat} {a b c d : Value} (h : w0.heap[g]? = some (.cells #[a, b, c, d] 54 (0, 0))) (a' b' c' d' : Value) :
    ((((w0.setCell ⟨g, 0, none⟩ a').setCell ⟨g, 1, none⟩ b').setCell ⟨g, 2, none⟩ c').setCell ⟨g, 3, none⟩ d').drew.heap[g]? = some (.cells #[a', b', c', d'] 54 (0, 0)) := by
  have h1 := heap_set (heap_set (heap_set (heap_set h 0 a') 1 b') 2 c') 3 d'
  exact h1

set_option maxHeartbeats 8000000 in
theorem next_any {w : World} {base b : Nat} {v : Value} {c : Cfg} {k : Task} {t : Tst} (h : Rf w base b v c k t) (hl : t.ran.length < 999) (hk : Tok c k) (x : Vw) :
    Calls Tryz.prog 12 #[.pointer (some ⟨b, 0, none⟩), vv x] w fun e w' => e = .returned (.int .i64 (k.next t x).1) ∧ Gos w w' base b v c k (k.next t x).2 := by
  obtain ⟨R, hR⟩ : ∃ R, R = k.next t x := ⟨_, rfl⟩
  rw [← hR]
  have HRs : Hid (R = k.next t x) := hR
  clear hR
  obtain ⟨w0, hw0⟩ : ∃ x9, x9 = w.alloc (.cells #[.int .i64 x.er, .int .i64 x.yo, .int .i64 x.te, .int .i64 x.tr] 54) := ⟨_, rfl⟩
  have hb0 : Below w.heap.size w w0 := by rw [hw0]; exact Below.alloc (Below.refl _ _) (Nat.le_refl _) _
  have h0 := h.below hb0
  have e0 : w0.cell? ⟨w.heap.size, 0, none⟩ = some (.int .i64 x.er) := by rw [hw0]; simp
  have e1 : w0.cell? ⟨w.heap.size, 1, none⟩ = some (.int .i64 x.yo) := by rw [hw0]; simp
  have e2 : w0.cell? ⟨w.heap.size, 2, none⟩ = some (.int .i64 x.te) := by rw [hw0]; simp
  have e3 : w0.cell? ⟨w.heap.size, 3, none⟩ = some (.int .i64 x.tr) := by rw [hw0]; simp
  have hg : w0.heap[w.heap.size]? = some (.cells #[.int .i64 x.er, .int .i64 x.yo, .int .i64 x.te, .int .i64 x.tr] 54 (0, 0)) := by rw [hw0]; exact heap_alloc_new w _
  have z0 := heap_frozen hg 0
  have z1 := heap_frozen hg 1
  have z2 := heap_frozen hg 2
  have z3 := heap_frozen hg 3
  have hbw : b < w.heap.size := h.lt
  have hvw : ∀ g, v.ownBlock = some g → g < w.heap.size := fun g hg => (h.row.lt g hg).2
  have HR : Hid (Rf w0 base b v c k t) := h0
  have HB : Hid (Below w.heap.size w w0) := hb0
  have HK : Hid (Tok c k) := hk
  have Hg : Hid (w0.heap[w.heap.size]? = some (.cells #[.int .i64 x.er, .int .i64 x.yo, .int .i64 x.te, .int .i64 x.tr] 54 (0, 0))) := hg
  have had : ∀ n : Int, Calls Tryz.prog 41 #[.int .i64 n] w0.drew fun e w' => e = .returned (.int .i64 (clp n)) ∧ w' = w0.drew := fun n => (above_any n w0.drew).mono (fun e w' ⟨h1, h2⟩ => ⟨h1, h2.symm⟩)
  have Hbw : Hid (b < w.heap.size ∧ ∀ g, v.ownBlock = some g → g < w.heap.size) := ⟨hbw, hvw⟩
  clear h h0 hb0 hg hbw hvw
  go_enter Tryz.func12, Tryz.ntmps12
  go_upto_region 1 with fail
  rw [← hw0]
  clear hw0
  refine quiet_tail 12 mixed (by kernel_rfl) ?_
  simp only [List.take_succ_cons, List.take_zero, List.drop_succ_cons, List.drop_zero]
  repeat (go_big_quiet_step (exact had _ _))
  refine wpQuiet_nil ?_
  go_upto_region 2 with fail
  have hbx := box_set Hg.out (.int .i64 (clp x.er)) (.int .i64 (clp x.yo)) (.int .i64 (clp x.te)) (.int .i64 (clp x.tr))
  have ht4 : Kg.Touch [w.heap.size] w0 ((((w0.setCell ⟨w.heap.size, 0, none⟩ (.int .i64 (clp x.er))).setCell ⟨w.heap.size, 1, none⟩ (.int .i64 (clp x.yo))).setCell ⟨w.heap.size, 2, none⟩ (.int .i64 (clp x.te))).setCell ⟨w.heap.size, 3, none⟩ (.int .i64 (clp x.tr))).drew :=
    ((((Kg.Touch.setCell _ _ _ (by simp)).trans (Kg.Touch.setCell _ _ _ (by simp))).trans (Kg.Touch.setCell _ _ _ (by simp))).trans (Kg.Touch.setCell _ _ _ (by simp))).trans (Kg.Touch.drew _ _)
  clear e0 e1 e2 e3 z0 z1 z2 z3 had
  generalize ((((w0.setCell ⟨w.heap.size, 0, none⟩ (.int .i64 (clp x.er))).setCell ⟨w.heap.size, 1, none⟩ (.int .i64 (clp x.yo))).setCell ⟨w.heap.size, 2, none⟩ (.int .i64 (clp x.te))).setCell ⟨w.heap.size, 3, none⟩ (.int .i64 (clp x.tr))).drew = w1 at hbx ht4 ⊢
  have f0 : w1.cell? ⟨w.heap.size, 0, none⟩ = some (.int .i64 (clp x.er)) := heap_cell hbx 0
  have f1 : w1.cell? ⟨w.heap.size, 1, none⟩ = some (.int .i64 (clp x.yo)) := heap_cell hbx 1
  have f2 : w1.cell? ⟨w.heap.size, 2, none⟩ = some (.int .i64 (clp x.te)) := heap_cell hbx 2
  have f3 : w1.cell? ⟨w.heap.size, 3, none⟩ = some (.int .i64 (clp x.tr)) := heap_cell hbx 3
  have HRx : Hid (Rf w1 base b v c k t) := HR.out.touch ht4 (by have := Hbw.out.1; simp; omega) (fun g hg => by have := Hbw.out.2 g hg; simp; omega)
  have HTx : Hid (Kg.Touch (Fp b v) w w1) := (Kg.Touch.of_below HB.out _).then ht4 (fun q hq => .inr (by simp at hq; omega))
  have HNx : Hid (Newer w.heap.size (Fp b v) (Fp b v)) := Newer.refl _ _
  have c19a := HRx.out.cell 19 (.bool t.cl) rfl
  clear hbx ht4 Hg HR
  by_cases hc : t.cl = false
  · rw [hc] at c19a
    have q := opn_any HRx.out (by omega) HK.out x.clip
    go_wp2_with fail
    refine q.mono ?_
    rintro e9 w2 ⟨rfl, hG⟩
    clear q
    rcases opn_cases k t x.clip with ho | ho
    · have e : Hid (R = k.opn t x.clip) := by
        have h := HRs.out; unfold Task.next at h; rw [if_pos hc, if_neg ho] at h; exact h
      have hne : ((k.opn t x.clip).1 == 0) = false := by simpa using ho
      have HG : Hid (Gos w w2 base b v c k (k.opn t x.clip).2) := by
        obtain ⟨v', r1, r2, r3⟩ := hG.ex
        exact Gos.cyc HTx.out r1 r2 r3
      clear hG
      go_wp2
      go_returns
      exact ⟨by rw [e.out]; rfl, by rw [e.out]; exact HG.out⟩
    · have HSh : Hid (R = k.shut t x.clip) := by
        have h := HRs.out; unfold Task.next at h; rw [if_pos hc, if_pos (by rw [ho])] at h; exact h
      rw [ho] at hG
      rw [ho]
      obtain ⟨v2, r1, r2, r3⟩ := hG.ex
      have hbx2 : ∀ j, w2.cell? ⟨w.heap.size, j, none⟩ = w1.cell? ⟨w.heap.size, j, none⟩ := fun j => by
        have hlt : w.heap.size < w1.heap.size := World.block_lt_of_cell? _ _ f0
        simp [World.cell?, r2.block w.heap.size hlt (fun hm => by
          simp only [Fp, List.mem_cons, Option.mem_toList] at hm
          rcases hm with hm | hm
          · have := Hbw.out.1; omega
          · have := Hbw.out.2 _ hm; omega)]
      have HTx2 : Hid (Kg.Touch (Fp b v) w w2) := HTx.out.trans r2
      have HNx2 : Hid (Newer w.heap.size (Fp b v) (Fp b v2)) := fun q hq => (r3 q hq).imp id (fun h => Nat.le_trans HTx.out.size h)
      have HRx2 : Hid (Rf w2 base b v2 c k t) := r1
      rw [← hbx2 0] at f0
      rw [← hbx2 1] at f1
      rw [← hbx2 2] at f2
      rw [← hbx2 3] at f3
      clear hG r1 r2 r3 hbx2 HRx HTx HNx c19a
      have HRx : Hid (Rf w2 base b v2 c k t) := HRx2.out
      have HTx : Hid (Kg.Touch (Fp b v) w w2) := HTx2.out
      have HNx : Hid (Newer w.heap.size (Fp b v) (Fp b v2)) := HNx2.out
      clear HRx2 HTx2 HNx2
      have HS : Hid (Rf (w2.setCell ⟨b, 19, none⟩ (.bool true)) base b v2 c k t.close) := HRx.out.shut
      have HTs : Hid (Kg.Touch (Fp b v) w (w2.setCell ⟨b, 19, none⟩ (.bool true))) := HTx.out.then (Kg.Touch.setCell (F := [b]) _ _ _ (by simp)) (fun q hq => .inl (by simp at hq; subst hq; exact fp_in _ _))
      have c19 := HRx.out.cell 19 (.bool t.cl) rfl
      have z19 := HRx.out.frozen 19
      go_upto_region 7 with fail
      have g2 : (w2.setCell ⟨b, 19, none⟩ (.bool true)).cell? ⟨w.heap.size, 2, none⟩ = some (.int .i64 (clp x.te)) := by
        rw [World.cell?_setCell_other _ _ _ _ (by have h9 := Hbw.out.1; intro e; simp at e)]; exact f2
      clear c19 z19 f0 f1 f2 f3
      generalize (w2.setCell ⟨b, 19, none⟩ (.bool true)) = ws at HS HTs g2 ⊢
      have c17 := HS.out.cell 17 (.int .i64 k.most) rfl
      have c20 := HS.out.cell 20 (.bool t.ov) rfl
      have HSd : Hid (Rf ws.drew base b v2 c k t.close) := HS.out.below ((Kg.Touch.drew [] ws).below (Nat.le_refl _) (fun k hk => by cases hk))
      have HTd : Hid (Kg.Touch (Fp b v) w ws.drew) := HTs.out.trans (Kg.Touch.drew _ _)
      have hr : Calls Tryz.prog 43 #[.pointer (some ⟨b, 0, none⟩), .int .i64 3] ws.drew fun e w' => e = .returned (.bool (decide (3 ∈ t.ran))) ∧ w' = ws.drew := (ran_any HSd.out 3).mono (fun e w' ⟨h1, h2⟩ => ⟨h1, h2.symm⟩)
      have HO : Hid (Rf (ws.drew.setCell ⟨b, 20, none⟩ (.bool true)) base b v2 c k { t.close with ov := true }) := HSd.out.over
      have HTo : Hid (Kg.Touch (Fp b v) w (ws.drew.setCell ⟨b, 20, none⟩ (.bool true))) := HTd.out.trans (Kg.Touch.setCell _ _ _ (fp_in _ _))
      have d20 := HSd.out.cell 20 (.bool t.ov) rfl
      have y20 := HSd.out.frozen 20
      have qc := cycle_any HSd.out (by simp [Tst.close]; omega) 5 3
      by_cases c1 : t.ov = false
      · rw [c1] at c20 d20
        by_cases c2 : k.most < clp x.te
        · by_cases c3 : 3 ∉ t.ran
          · have e : Hid (R = (5, t.close.cyc 3)) := by
              have h := HSh.out; unfold Task.shut at h; rw [if_pos ⟨c1, c2, c3⟩] at h; exact h
            rw [decide_eq_false c3] at hr
            refine quiet_tail 18 mixed (by kernel_rfl) ?_
            simp only [List.take_succ_cons, List.take_zero, List.drop_succ_cons, List.drop_zero]
            repeat (go_big_quiet_step (exact hr _))
            refine wpQuiet_nil ?_
            clear hr d20 y20
            go_wp2_with fail
            refine qc.mono ?_
            rintro e9 w5 ⟨rfl, v5, r1, r2, r3⟩
            have HG : Hid (Gos w w5 base b v c k (t.close.cyc 3)) := ⟨v5, r1, HTd.out.then r2 (fun q hq => HNx.out q hq), fun q hq => (r3 q hq).elim (fun h => HNx.out q h) (fun h => .inr (Nat.le_trans HTd.out.size h))⟩
            clear qc r1 r2 r3
            go_wp2
            go_returns
            exact ⟨by rw [e.out]; rfl, by rw [e.out]; exact HG.out⟩
          · have e : Hid (R = (7, { t.close with ov := true })) := by
              have h := HSh.out; unfold Task.shut at h; rw [if_neg (fun q => c3 q.2.2)] at h; exact h
            rw [decide_eq_true (Decidable.not_not.1 c3)] at hr
            refine quiet_tail 18 mixed (by kernel_rfl) ?_
            simp only [List.take_succ_cons, List.take_zero, List.drop_succ_cons, List.drop_zero]
            repeat (go_big_quiet_step (exact hr _))
            refine wpQuiet_nil ?_
            have HG : Hid (Gos w (ws.drew.setCell ⟨b, 20, none⟩ (.bool true)) base b v c k { t.close with ov := true }) := ⟨v2, HO.out, HTo.out, HNx.out⟩
            clear hr
            go_wp2
            go_ret
            exact ⟨by rw [e.out]; rfl, by rw [e.out]; exact HG.out⟩
        · have c2' : decide (k.most < clp x.te) = false := decide_eq_false c2
          have e : Hid (R = (7, { t.close with ov := true })) := by
            have h := HSh.out; unfold Task.shut at h; rw [if_neg (fun q => c2 q.2.1)] at h; exact h
          refine quiet_tail 18 mixed (by kernel_rfl) ?_
          simp only [List.take_succ_cons, List.take_zero, List.drop_succ_cons, List.drop_zero]
          repeat (go_big_quiet_step (exact hr _))
          refine wpQuiet_nil ?_
          have HG : Hid (Gos w (ws.drew.setCell ⟨b, 20, none⟩ (.bool true)) base b v c k { t.close with ov := true }) := ⟨v2, HO.out, HTo.out, HNx.out⟩
          clear hr
          go_wp2
          go_ret
          exact ⟨by rw [e.out]; rfl, by rw [e.out]; exact HG.out⟩
      · have c1' : t.ov = true := by simpa using c1
        rw [c1'] at c20 d20
        have e : Hid (R = (7, { t.close with ov := true })) := by
          have h := HSh.out; unfold Task.shut at h; rw [if_neg (fun q => c1 q.1)] at h; exact h
        refine quiet_tail 18 mixed (by kernel_rfl) ?_
        simp only [List.take_succ_cons, List.take_zero, List.drop_succ_cons, List.drop_zero]
        repeat (go_big_quiet_step (exact hr _))
        refine wpQuiet_nil ?_
        have HG : Hid (Gos w (ws.drew.setCell ⟨b, 20, none⟩ (.bool true)) base b v c k { t.close with ov := true }) := ⟨v2, HO.out, HTo.out, HNx.out⟩
        clear hr
        go_wp2
        go_ret
        exact ⟨by rw [e.out]; rfl, by rw [e.out]; exact HG.out⟩
  · have hc' : t.cl = true := by simpa using hc
    rw [hc'] at c19a
    have HSh : Hid (R = k.shut t x.clip) := by
      have h := HRs.out; unfold Task.next at h; rw [if_neg hc] at h; exact h
    have HS : Hid (Rf (w1.setCell ⟨b, 19, none⟩ (.bool true)) base b v c k t.close) := HRx.out.shut
    have HTs : Hid (Kg.Touch (Fp b v) w (w1.setCell ⟨b, 19, none⟩ (.bool true))) := HTx.out.then (Kg.Touch.setCell (F := [b]) _ _ _ (by simp)) (fun q hq => .inl (by simp at hq; subst hq; exact fp_in _ _))
    have c19 := HRx.out.cell 19 (.bool t.cl) rfl
    have z19 := HRx.out.frozen 19
    go_upto_region 7 with fail
    have g2 : (w1.setCell ⟨b, 19, none⟩ (.bool true)).cell? ⟨w.heap.size, 2, none⟩ = some (.int .i64 (clp x.te)) := by
      rw [World.cell?_setCell_other _ _ _ _ (by have h9 := Hbw.out.1; intro e; simp at e)]; exact f2
    clear c19 z19 f0 f1 f2 f3
    generalize (w1.setCell ⟨b, 19, none⟩ (.bool true)) = ws at HS HTs g2 ⊢
    have c17 := HS.out.cell 17 (.int .i64 k.most) rfl
    have c20 := HS.out.cell 20 (.bool t.ov) rfl
    have HSd : Hid (Rf ws.drew base b v c k t.close) := HS.out.below ((Kg.Touch.drew [] ws).below (Nat.le_refl _) (fun k hk => by cases hk))
    have HTd : Hid (Kg.Touch (Fp b v) w ws.drew) := HTs.out.trans (Kg.Touch.drew _ _)
    have hr : Calls Tryz.prog 43 #[.pointer (some ⟨b, 0, none⟩), .int .i64 3] ws.drew fun e w' => e = .returned (.bool (decide (3 ∈ t.ran))) ∧ w' = ws.drew := (ran_any HSd.out 3).mono (fun e w' ⟨h1, h2⟩ => ⟨h1, h2.symm⟩)
    have HO : Hid (Rf (ws.drew.setCell ⟨b, 20, none⟩ (.bool true)) base b v c k { t.close with ov := true }) := HSd.out.over
    have HTo : Hid (Kg.Touch (Fp b v) w (ws.drew.setCell ⟨b, 20, none⟩ (.bool true))) := HTd.out.trans (Kg.Touch.setCell _ _ _ (fp_in _ _))
    have d20 := HSd.out.cell 20 (.bool t.ov) rfl
    have y20 := HSd.out.frozen 20
    have qc := cycle_any HSd.out (by simp [Tst.close]; omega) 5 3
    by_cases c1 : t.ov = false
    · rw [c1] at c20 d20
      by_cases c2 : k.most < clp x.te
      · by_cases c3 : 3 ∉ t.ran
        · have e : Hid (R = (5, t.close.cyc 3)) := by
            have h := HSh.out; unfold Task.shut at h; rw [if_pos ⟨c1, c2, c3⟩] at h; exact h
          rw [decide_eq_false c3] at hr
          refine quiet_tail 18 mixed (by kernel_rfl) ?_
          simp only [List.take_succ_cons, List.take_zero, List.drop_succ_cons, List.drop_zero]
          repeat (go_big_quiet_step (exact hr _))
          refine wpQuiet_nil ?_
          clear hr d20 y20
          go_wp2_with fail
          refine qc.mono ?_
          rintro e9 w5 ⟨rfl, v5, r1, r2, r3⟩
          have HG : Hid (Gos w w5 base b v c k (t.close.cyc 3)) := ⟨v5, r1, HTd.out.then r2 (fun q hq => HNx.out q hq), fun q hq => (r3 q hq).elim (fun h => HNx.out q h) (fun h => .inr (Nat.le_trans HTd.out.size h))⟩
          clear qc r1 r2 r3
          go_wp2
          go_returns
          exact ⟨by rw [e.out]; rfl, by rw [e.out]; exact HG.out⟩
        · have e : Hid (R = (7, { t.close with ov := true })) := by
            have h := HSh.out; unfold Task.shut at h; rw [if_neg (fun q => c3 q.2.2)] at h; exact h
          rw [decide_eq_true (Decidable.not_not.1 c3)] at hr
          refine quiet_tail 18 mixed (by kernel_rfl) ?_
          simp only [List.take_succ_cons, List.take_zero, List.drop_succ_cons, List.drop_zero]
          repeat (go_big_quiet_step (exact hr _))
          refine wpQuiet_nil ?_
          have HG : Hid (Gos w (ws.drew.setCell ⟨b, 20, none⟩ (.bool true)) base b v c k { t.close with ov := true }) := ⟨v, HO.out, HTo.out, HNx.out⟩
          clear hr
          go_wp2
          go_ret
          exact ⟨by rw [e.out]; rfl, by rw [e.out]; exact HG.out⟩
      · have c2' : decide (k.most < clp x.te) = false := decide_eq_false c2
        have e : Hid (R = (7, { t.close with ov := true })) := by
          have h := HSh.out; unfold Task.shut at h; rw [if_neg (fun q => c2 q.2.1)] at h; exact h
        refine quiet_tail 18 mixed (by kernel_rfl) ?_
        simp only [List.take_succ_cons, List.take_zero, List.drop_succ_cons, List.drop_zero]
        repeat (go_big_quiet_step (exact hr _))
        refine wpQuiet_nil ?_
        have HG : Hid (Gos w (ws.drew.setCell ⟨b, 20, none⟩ (.bool true)) base b v c k { t.close with ov := true }) := ⟨v, HO.out, HTo.out, HNx.out⟩
        clear hr
        go_wp2
        go_ret
        exact ⟨by rw [e.out]; rfl, by rw [e.out]; exact HG.out⟩
    · have c1' : t.ov = true := by simpa using c1
      rw [c1'] at c20 d20
      have e : Hid (R = (7, { t.close with ov := true })) := by
        have h := HSh.out; unfold Task.shut at h; rw [if_neg (fun q => c1 q.1)] at h; exact h
      refine quiet_tail 18 mixed (by kernel_rfl) ?_
      simp only [List.take_succ_cons, List.take_zero, List.drop_succ_cons, List.drop_zero]
      repeat (go_big_quiet_step (exact hr _))
      refine wpQuiet_nil ?_
      have HG : Hid (Gos w (ws.drew.setCell ⟨b, 20, none⟩ (.bool true)) base b v c k { t.close with ov := true }) := ⟨v, HO.out, HTo.out, HNx.out⟩
      clear hr
      go_wp2
      go_ret
      exact ⟨by rw [e.out]; rfl, by rw [e.out]; exact HG.out⟩

end Go.Proofs.YtcijdbhabbepaaaGreatDoor.Po
