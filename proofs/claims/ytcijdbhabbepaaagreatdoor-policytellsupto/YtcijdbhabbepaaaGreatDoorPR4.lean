/-
  Policy: the document's open.
-/
import Derived.Test.YtcijdbhabbepaaaGreatDoorPR3
set_option linter.unusedVariables false
set_option maxRecDepth 20000
namespace Go.Proofs.YtcijdbhabbepaaaGreatDoor.Po
open Go.RowKit Go.Proofs.YtcijdbhabbepaaaGreatDoor.Kg

theorem Gos.below {w w0 w' : World} {base b : Nat} {v : Value} {c : Cfg} {k : Task} {t' : Tst} (hb : Below w.heap.size w w0) (h : Gos w0 w' base b v c k t') : Gos w w' base b v c k t' := by
  obtain ⟨v', h1, h2, h3⟩ := h.ex
  exact Gos.cyc (Kg.Touch.of_below hb _) h1 h2 h3

set_option maxHeartbeats 8000000 in
theorem opn_any {w : World} {base b : Nat} {v : Value} {c : Cfg} {k : Task} {t : Tst} (h : Rf w base b v c k t) (hl : t.ran.length < 1000) (hk : Tok c k) (x : Vw) :
    Calls Tryz.prog 42 #[.pointer (some ⟨b, 0, none⟩), vv x] w fun e w' => e = .returned (.int .i64 (k.opn t x).1) ∧ Gos w w' base b v c k (k.opn t x).2 := by
  obtain ⟨R, hR⟩ : ∃ R, R = k.opn t x := ⟨_, rfl⟩
  rw [← hR]
  have HRs : Hid (R = k.opn t x) := hR
  clear hR
  obtain ⟨w0, hw0⟩ : ∃ x9, x9 = w.alloc (.cells #[.int .i64 x.er, .int .i64 x.yo, .int .i64 x.te, .int .i64 x.tr] 54) := ⟨_, rfl⟩
  have hb0 : Below w.heap.size w w0 := by rw [hw0]; exact Below.alloc (Below.refl _ _) (Nat.le_refl _) _
  have h0 := h.below hb0
  have e0 : w0.cell? ⟨w.heap.size, 0, none⟩ = some (.int .i64 x.er) := by rw [hw0]; simp
  have e1 : w0.cell? ⟨w.heap.size, 1, none⟩ = some (.int .i64 x.yo) := by rw [hw0]; simp
  have e2 : w0.cell? ⟨w.heap.size, 2, none⟩ = some (.int .i64 x.te) := by rw [hw0]; simp
  have e3 : w0.cell? ⟨w.heap.size, 3, none⟩ = some (.int .i64 x.tr) := by rw [hw0]; simp
  have HR : Hid (Rf w0 base b v c k t) := h0
  have HB : Hid (Below w.heap.size w w0) := hb0
  have HK : Hid (Tok c k) := hk
  have Hw : Hid (w.heap.size < w0.heap.size) := by rw [hw0]; exact (by simp : w.heap.size < (w.alloc _).heap.size)
  have c14 := h0.cell 14 (.int .i64 k.kind) rfl
  have qr := ran_any h0 3
  clear h h0 hb0
  go_enter Tryz.func42, Tryz.ntmps42
  go_upto_region 1 with fail
  rw [← hw0]
  clear hw0
  go_wp2_with fail
  refine qr.mono ?_
  rintro e9 w9 ⟨rfl, rfl⟩
  clear qr
  have HDr : Hid (Rf w0.drew base b v c k t) := HR.out.below ((Kg.Touch.drew [] w0).below (Nat.le_refl _) (fun k hk => by cases hk))
  by_cases k1 : k.kind = 1
  · have eR : Hid (R = if k.big then k.bigs t x else k.small t x) := by
      have h := HRs.out; unfold Task.opn at h; rw [if_pos k1] at h; exact h
    have hk1 : (k.kind == 1) = true := by simpa using k1
    have d0 := HR.out.cell 0 (.int .i64 c.eden) rfl
    have d1 := HR.out.cell 1 (.int .i64 c.surv) rfl
    have d2 := HR.out.cell 2 (.int .i64 c.ten) rfl
    have d3 := HR.out.cell 3 (.int .i64 c.large) rfl
    have d4 := HR.out.cell 4 (.int .i64 c.floor) rfl
    have d5 := HR.out.cell 5 (.int .i64 c.num) rfl
    have d6 := HR.out.cell 6 (.int .i64 c.den) rfl
    have d7 := HR.out.cell 7 (.int .i64 c.target) rfl
    have d8 := HR.out.cell 8 (.int .i64 c.maxAge) rfl
    have d9 := HR.out.cell 9 (.int .i64 c.threads) rfl
    have d10 := HR.out.cell 10 (.int .i64 c.slots) rfl
    have d11 := HR.out.cell 11 (.int .i64 c.handles) rfl
    have d12 := HR.out.cell 12 (.int .i64 c.buffer) rfl
    have d13 := HR.out.cell 13 (.int .i64 c.workers) rfl
    have d15 := HR.out.cell 15 (.int .i64 k.words) rfl
    have q := rbig_any c k.words w0.drew
    rw [← HK.out.bg] at q
    go_upto_region 5 with fail
    refine quiet_call 8 mixed (by kernel_rfl) ?_
    simp only [List.take_succ_cons, List.take_zero, List.drop_succ_cons, List.drop_zero]
    repeat (go_big_quiet_step (fail))
    refine wpQuiet_nil ?_
    go_wp2_with fail
    refine q.mono ?_
    rintro e9 w1 ⟨rfl, hb1⟩
    clear q d0 d1 d2 d3 d4 d5 d6 d7 d8 d9 d10 d11 d12 d13 d15 c14
    have HR1 : Hid (Rf w1 base b v c k t) := HDr.out.below hb1
    have HB1 : Hid (Below w.heap.size w w1) := HB.out.trans (((Kg.Touch.drew [] w0).below (B := w.heap.size) (Nat.le_of_lt Hw.out) (fun k hk => by cases hk)).trans (hb1.mono (Nat.le_of_lt Hw.out)))
    have f0 : w1.cell? ⟨w.heap.size, 0, none⟩ = some (.int .i64 x.er) := (hb1.cell (p := ⟨w.heap.size, 0, none⟩) Hw.out).trans e0
    have f1 : w1.cell? ⟨w.heap.size, 1, none⟩ = some (.int .i64 x.yo) := (hb1.cell (p := ⟨w.heap.size, 1, none⟩) Hw.out).trans e1
    have f2 : w1.cell? ⟨w.heap.size, 2, none⟩ = some (.int .i64 x.te) := (hb1.cell (p := ⟨w.heap.size, 2, none⟩) Hw.out).trans e2
    have f3 : w1.cell? ⟨w.heap.size, 3, none⟩ = some (.int .i64 x.tr) := (hb1.cell (p := ⟨w.heap.size, 3, none⟩) Hw.out).trans e3
    clear hb1 e0 e1 e2 e3
    go_wp2_with fail
    refine thenQuiet_mk ?_
    refine wpQuiet_nil ?_
    cases hbg : k.big
    · have eS : Hid (R = k.small t x) := (by have h := eR.out; rw [hbg] at h; simpa using h : R = k.small t x)
      have q := small_any HR1.out hl x
      go_wp2_with fail
      refine q.mono ?_
      rintro e9 w2 ⟨rfl, hG⟩
      have HG : Hid (Gos w w2 base b v c k (k.small t x).2) := hG.below HB1.out
      clear q hG
      go_wp2
      go_returns
      exact ⟨by rw [eS.out]; rfl, by rw [eS.out]; exact HG.out⟩
    · have eS : Hid (R = k.bigs t x) := (by have h := eR.out; rw [hbg] at h; simpa using h : R = k.bigs t x)
      have q := bigs_any HR1.out hl HK.out.m ⟨HK.out.w1 k1, HK.out.w2⟩ x
      go_wp2_with fail
      refine q.mono ?_
      rintro e9 w2 ⟨rfl, hG⟩
      have HG : Hid (Gos w w2 base b v c k (k.bigs t x).2) := hG.below HB1.out
      clear q hG
      go_wp2
      go_returns
      exact ⟨by rw [eS.out]; rfl, by rw [eS.out]; exact HG.out⟩
  · have hk1 : (k.kind == 1) = false := by simpa using k1
    clear e0 e2 HDr
    have HS : Hid (Rf (w0.setCell ⟨b, 19, none⟩ (.bool true)) base b v c k t.close) := HR.out.shut
    have HT : Hid (Kg.Touch (Fp b v) w (w0.setCell ⟨b, 19, none⟩ (.bool true))) := (Kg.Touch.of_below HB.out _).trans (Kg.Touch.setCell _ _ _ (fp_in _ _))
    have HT0 : Hid (Kg.Touch (Fp b v) w w0) := Kg.Touch.of_below HB.out _
    have c19 := HR.out.cell 19 (.bool t.cl) rfl
    have z19 := HR.out.frozen 19
    by_cases k2 : k.kind = 2 ∨ k.kind = 3
    · have hcs : ((k.kind == 2) = true ∧ (k.kind == 3) = false ∧ k.kind ≠ 3) ∨ ((k.kind == 2) = false ∧ (k.kind == 3) = true ∧ k.kind = 3) := by
        rcases k2 with e | e
        · exact .inl ⟨by simp [e], by simp [e], by omega⟩
        · exact .inr ⟨by simp [e], by simp [e], e⟩
      by_cases a1 : x.yo ≤ x.tr
      · rcases hcs with ⟨hA, hB, k3⟩ | ⟨hA, hB, k3⟩
        · have e : Hid (R = (3, t.close.cyc 1)) := by
            have h := HRs.out; unfold Task.opn at h; rw [if_neg k1, if_pos k2, if_pos a1, if_neg k3] at h; exact h
          have q := cycle_any HS.out (by simpa [Tst.close] using hl) 3 1
          have d14 : (w0.setCell ⟨b, 19, none⟩ (.bool true)).cell? ⟨b, 14, none⟩ = some (.int .i64 k.kind) := HS.out.cell 14 (.int .i64 k.kind) rfl
          go_wp2_with fail
          refine q.mono ?_
          rintro e9 w2 ⟨rfl, v2, r1, r2, r3⟩
          have HG : Hid (Gos w w2 base b v c k (t.close.cyc 1)) := Gos.cyc HT.out r1 r2 r3
          clear q r1 r2 r3
          go_wp2
          go_returns
          exact ⟨by rw [e.out]; rfl, by rw [e.out]; exact HG.out⟩
        · have e : Hid (R = (4, t.close.cyc 2)) := by
            have h := HRs.out; unfold Task.opn at h; rw [if_neg k1, if_pos k2, if_pos a1, if_pos k3] at h; exact h
          have q := cycle_any HS.out (by simpa [Tst.close] using hl) 4 2
          have d14 : (w0.setCell ⟨b, 19, none⟩ (.bool true)).cell? ⟨b, 14, none⟩ = some (.int .i64 k.kind) := HS.out.cell 14 (.int .i64 k.kind) rfl
          go_wp2_with fail
          refine q.mono ?_
          rintro e9 w2 ⟨rfl, v2, r1, r2, r3⟩
          have HG : Hid (Gos w w2 base b v c k (t.close.cyc 2)) := Gos.cyc HT.out r1 r2 r3
          clear q r1 r2 r3
          go_wp2
          go_returns
          exact ⟨by rw [e.out]; rfl, by rw [e.out]; exact HG.out⟩
      · have a1' : decide (x.yo ≤ x.tr) = false := decide_eq_false a1
        by_cases m3 : 3 ∉ t.ran
        · have e : Hid (R = (5, t.cyc 3)) := by
            have h := HRs.out; unfold Task.opn at h; rw [if_neg k1, if_pos k2, if_neg a1, if_pos m3] at h; exact h
          have m3' : decide (3 ∈ t.ran) = false := decide_eq_false m3
          have q := cycle_any HR.out hl 5 3
          clear c19 z19
          rcases hcs with ⟨hA, hB, k3⟩ | ⟨hA, hB, k3⟩
          all_goals
            go_wp2_with fail
            refine q.mono ?_
            rintro e9 w2 ⟨rfl, v2, r1, r2, r3⟩
            have HG : Hid (Gos w w2 base b v c k (t.cyc 3)) := Gos.cyc HT0.out r1 r2 r3
            clear q r1 r2 r3
            go_wp2
            go_returns
            exact ⟨by rw [e.out]; rfl, by rw [e.out]; exact HG.out⟩
        · have e : Hid (R = (0, t)) := by
            have h := HRs.out; unfold Task.opn at h; rw [if_neg k1, if_pos k2, if_neg a1, if_neg m3] at h; exact h
          have m3' : decide (3 ∈ t.ran) = true := decide_eq_true (Decidable.not_not.1 m3)
          have HG : Hid (Gos w w0 base b v c k t) := Gos.same HR.out HT0.out
          clear c19 z19
          rcases hcs with ⟨hA, hB, k3⟩ | ⟨hA, hB, k3⟩
          all_goals
            go_wp2
            go_ret
            exact ⟨by rw [e.out]; rfl, by rw [e.out]; exact HG.out⟩
    · have hA : (k.kind == 2) = false := by simp; omega
      have hB : (k.kind == 3) = false := by simp; omega
      by_cases k4 : k.kind = 4
      · have e : Hid (R = (5, t.close.cyc 3)) := by
          have h := HRs.out; unfold Task.opn at h; rw [if_neg k1, if_neg k2, if_pos k4] at h; exact h
        have hC : (k.kind == 4) = true := by simpa using k4
        have q := cycle_any HS.out (by simpa [Tst.close] using hl) 5 3
        go_wp2_with fail
        refine q.mono ?_
        rintro e9 w2 ⟨rfl, v2, r1, r2, r3⟩
        have HG : Hid (Gos w w2 base b v c k (t.close.cyc 3)) := Gos.cyc HT.out r1 r2 r3
        clear q r1 r2 r3
        go_wp2
        go_returns
        exact ⟨by rw [e.out]; rfl, by rw [e.out]; exact HG.out⟩
      · have e : Hid (R = (0, t)) := by
          have h := HRs.out; unfold Task.opn at h; rw [if_neg k1, if_neg k2, if_neg k4] at h; exact h
        have hC : (k.kind == 4) = false := by simpa using k4
        have HG : Hid (Gos w w0 base b v c k t) := Gos.same HR.out HT0.out
        clear c19 z19
        go_wp2
        go_ret
        exact ⟨by rw [e.out]; rfl, by rw [e.out]; exact HG.out⟩

end Go.Proofs.YtcijdbhabbepaaaGreatDoor.Po
