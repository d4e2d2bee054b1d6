/-
  Policy: the document's big, Big, open.
-/
import Derived.Test.YtcijdbhabbepaaaGreatDoorPR2
import Derived.Test.YtcijdbhabbepaaaGreatDoorKGC
set_option linter.unusedVariables false
set_option maxRecDepth 20000
namespace Go.Proofs.YtcijdbhabbepaaaGreatDoor.Po
open Go.RowKit Go.Proofs.YtcijdbhabbepaaaGreatDoor.Kg

theorem row_slice {w : World} {base n : Nat} {v : Value} {xs : List Value} {e : Nat} (h : w.ownsRow base e 1 v n xs) : ∃ a cap, v = .slice a n cap := by
  rcases h.2 with ⟨rfl, rfl⟩ | ⟨g, cap, cur, rfl, _⟩
  · exact ⟨_, _, rfl⟩
  · exact ⟨_, _, rfl⟩

set_option maxHeartbeats 8000000 in
theorem bigs_any {w : World} {base b : Nat} {v : Value} {c : Cfg} {k : Task} {t : Tst} (h : Rf w base b v c k t) (hl : t.ran.length < 1000) (hm : 0 ≤ k.most ∧ k.most ≤ 4294967296) (hw : 2 ≤ k.words ∧ k.words < 9223372036854775808) (x : Vw) :
    Calls Tryz.prog 67 #[.pointer (some ⟨b, 0, none⟩), vv x, .bool (decide (3 ∈ t.ran))] w fun e w' => e = .returned (.int .i64 (k.bigs t x).1) ∧ Gos w w' base b v c k (k.bigs t x).2 := by
  obtain ⟨R, hR⟩ : ∃ R, R = k.bigs t x := ⟨_, rfl⟩
  rw [← hR]
  have HRs : Hid (R = k.bigs t x) := hR
  clear hR
  obtain ⟨w0, hw0⟩ : ∃ x9, x9 = w.alloc (.cells #[.int .i64 x.er, .int .i64 x.yo, .int .i64 x.te, .int .i64 x.tr] 54) := ⟨_, rfl⟩
  have hb0 : Below w.heap.size w w0 := by rw [hw0]; exact Below.alloc (Below.refl _ _) (Nat.le_refl _) _
  have h0 := h.below hb0
  have e2 : w0.cell? ⟨w.heap.size, 2, none⟩ = some (.int .i64 x.te) := by rw [hw0]; simp
  have e3 : w0.cell? ⟨w.heap.size, 3, none⟩ = some (.int .i64 x.tr) := by rw [hw0]; simp
  have HR : Hid (Rf w0 base b v c k t) := h0
  have HB : Hid (Kg.Touch (Fp b v) w w0) := Kg.Touch.of_below hb0 _
  have c15 := h0.cell 15 (.int .i64 k.words) rfl
  have c17 := h0.cell 17 (.int .i64 k.most) rfl
  clear h h0 hb0
  have dn : Rf w0.drew base b v c k t ∧ Kg.Touch (Fp b v) w w0.drew := ⟨HR.out.below ((Kg.Touch.drew [] w0).below (Nat.le_refl _) (fun k hk => by cases hk)), HB.out.trans (Kg.Touch.drew _ _)⟩
  have HD : Hid (Rf w0.drew base b v c k t ∧ Kg.Touch (Fp b v) w w0.drew) := dn
  clear dn HR HB
  by_cases b1 : k.words ≤ x.tr
  · by_cases m3 : 3 ∈ t.ran
    · have e : Hid (R = (2, t.close)) := by
        have h := HRs.out; unfold Task.bigs at h; rw [if_pos ⟨b1, .inl m3⟩] at h; exact h
      rw [decide_eq_true m3]
      go_enter Tryz.func67, Tryz.ntmps67
      go_upto_region 1 with fail
      rw [← hw0]
      clear hw0
      refine quiet_tail 24 mixed (by kernel_rfl) ?_
      simp only [List.take_succ_cons, List.take_zero, List.drop_succ_cons, List.drop_zero]
      repeat (go_big_quiet_step (fail))
      refine wpQuiet_nil ?_
      obtain ⟨r1, r2⟩ := HD.out
      have HS : Hid (Gos w (w0.drew.setCell ⟨b, 19, none⟩ (.bool true)) base b v c k t.close) := Gos.same r1.shut (r2.trans (Kg.Touch.setCell _ _ _ (fp_in _ _)))
      have c19 := r1.cell 19 (.bool t.cl) rfl
      have z19 := r1.frozen 19
      clear r1 r2 c15 c17 e2 e3
      generalize w0.drew = w1 at HS c19 z19 ⊢
      go_wp2
      go_returns
      exact ⟨by rw [e.out]; rfl, by rw [e.out]; exact HS.out⟩
    · by_cases b3 : x.te ≤ k.most - k.words
      · have e : Hid (R = (2, t.close)) := by
          have h := HRs.out; unfold Task.bigs at h; rw [if_pos ⟨b1, .inr b3⟩] at h; exact h
        rw [decide_eq_false m3]
        go_enter Tryz.func67, Tryz.ntmps67
        go_upto_region 1 with fail
        rw [← hw0]
        clear hw0
        refine quiet_tail 24 mixed (by kernel_rfl) ?_
        simp only [List.take_succ_cons, List.take_zero, List.drop_succ_cons, List.drop_zero]
        repeat (go_big_quiet_step (fail))
        refine wpQuiet_nil ?_
        obtain ⟨r1, r2⟩ := HD.out
        have HS : Hid (Gos w (w0.drew.setCell ⟨b, 19, none⟩ (.bool true)) base b v c k t.close) := Gos.same r1.shut (r2.trans (Kg.Touch.setCell _ _ _ (fp_in _ _)))
        have c19 := r1.cell 19 (.bool t.cl) rfl
        have z19 := r1.frozen 19
        clear r1 r2 c15 c17 e2 e3
        generalize w0.drew = w1 at HS c19 z19 ⊢
        go_wp2
        go_returns
        exact ⟨by rw [e.out]; rfl, by rw [e.out]; exact HS.out⟩
      · have e : Hid (R = (5, t.cyc 3)) := by
          have h := HRs.out; unfold Task.bigs at h; rw [if_neg (fun q => b3 (q.2.resolve_left m3)), if_pos m3] at h; exact h
        have b3' : decide (x.te ≤ k.most - k.words) = false := decide_eq_false b3
        rw [decide_eq_false m3]
        go_enter Tryz.func67, Tryz.ntmps67
        go_upto_region 1 with fail
        rw [← hw0]
        clear hw0
        refine quiet_tail 24 mixed (by kernel_rfl) ?_
        simp only [List.take_succ_cons, List.take_zero, List.drop_succ_cons, List.drop_zero]
        repeat (go_big_quiet_step (fail))
        refine wpQuiet_nil ?_
        obtain ⟨r1, r2⟩ := HD.out
        have q := cycle_any r1 hl 5 3
        have HB1 : Hid (Kg.Touch (Fp b v) w w0.drew) := r2
        clear r1 r2 c15 c17 e2 e3
        generalize w0.drew = w1 at q HB1 ⊢
        go_wp2_with fail
        refine q.mono ?_
        rintro e9 w2 ⟨rfl, v2, r1, r2, r3⟩
        have HG : Hid (Gos w w2 base b v c k (t.cyc 3)) := Gos.cyc HB1.out r1 r2 r3
        clear q r1 r2 r3
        go_wp2
        go_returns
        exact ⟨by rw [e.out]; rfl, by rw [e.out]; exact HG.out⟩
  · have b1' : decide (k.words ≤ x.tr) = false := decide_eq_false b1
    by_cases m3 : 3 ∈ t.ran
    · have e : Hid (R = (6, t.close)) := by
        have h := HRs.out; unfold Task.bigs at h; rw [if_neg (fun q => b1 q.1), if_neg (fun q => q m3)] at h; exact h
      rw [decide_eq_true m3]
      go_enter Tryz.func67, Tryz.ntmps67
      go_upto_region 1 with fail
      rw [← hw0]
      clear hw0
      refine quiet_tail 24 mixed (by kernel_rfl) ?_
      simp only [List.take_succ_cons, List.take_zero, List.drop_succ_cons, List.drop_zero]
      repeat (go_big_quiet_step (fail))
      refine wpQuiet_nil ?_
      obtain ⟨r1, r2⟩ := HD.out
      have HS : Hid (Gos w (w0.drew.setCell ⟨b, 19, none⟩ (.bool true)) base b v c k t.close) := Gos.same r1.shut (r2.trans (Kg.Touch.setCell _ _ _ (fp_in _ _)))
      have c19 := r1.cell 19 (.bool t.cl) rfl
      have z19 := r1.frozen 19
      clear r1 r2 c15 c17 e2 e3
      generalize w0.drew = w1 at HS c19 z19 ⊢
      go_wp2
      go_ret
      exact ⟨by rw [e.out]; rfl, by rw [e.out]; exact HS.out⟩
    · have e : Hid (R = (5, t.cyc 3)) := by
        have h := HRs.out; unfold Task.bigs at h; rw [if_neg (fun q => b1 q.1), if_pos m3] at h; exact h
      rw [decide_eq_false m3]
      go_enter Tryz.func67, Tryz.ntmps67
      go_upto_region 1 with fail
      rw [← hw0]
      clear hw0
      refine quiet_tail 24 mixed (by kernel_rfl) ?_
      simp only [List.take_succ_cons, List.take_zero, List.drop_succ_cons, List.drop_zero]
      repeat (go_big_quiet_step (fail))
      refine wpQuiet_nil ?_
      obtain ⟨r1, r2⟩ := HD.out
      have q := cycle_any r1 hl 5 3
      have HB1 : Hid (Kg.Touch (Fp b v) w w0.drew) := r2
      clear r1 r2 c15 c17 e2 e3
      generalize w0.drew = w1 at q HB1 ⊢
      go_wp2_with fail
      refine q.mono ?_
      rintro e9 w2 ⟨rfl, v2, r1, r2, r3⟩
      have HG : Hid (Gos w w2 base b v c k (t.cyc 3)) := Gos.cyc HB1.out r1 r2 r3
      clear q r1 r2 r3
      go_wp2
      go_returns
      exact ⟨by rw [e.out]; rfl, by rw [e.out]; exact HG.out⟩

theorem rbig_any (c : Cfg) (n : Int) (w : World) : Calls Tryz.prog 66 #[cv c, .int .i64 n] w fun e w' => e = .returned (.bool (decide (c.large ≤ n ∨ c.eden < n))) ∧ Below w.heap.size w w' := by
  have b0 : Below w.heap.size w (w.alloc (.cells (ccells c) 23)) := Below.alloc (Below.refl _ _) (Nat.le_refl _) _
  have k0 : (w.alloc (.cells (ccells c) 23)).cell? ⟨w.heap.size, 0, none⟩ = some (.int .i64 c.eden) := (Cfd.new w c).cell 0
  have k3 : (w.alloc (.cells (ccells c) 23)).cell? ⟨w.heap.size, 3, none⟩ = some (.int .i64 c.large) := (Cfd.new w c).cell 3
  have HB : Hid (Below w.heap.size w (w.alloc (.cells (ccells c) 23))) := b0
  clear b0
  by_cases h1 : c.large ≤ n
  · have e : Hid (decide (c.large ≤ n ∨ c.eden < n) = true) := decide_eq_true (.inl h1)
    go_enter Tryz.func66, Tryz.ntmps66
    go_wp2
    go_ret
    exact ⟨by first | (rw [e.out]; rfl) | (simp; omega) | simp, HB.out⟩
  · have h1' : decide (c.large ≤ n) = false := decide_eq_false h1
    by_cases h2 : c.eden < n
    · have e : Hid (decide (c.large ≤ n ∨ c.eden < n) = true) := decide_eq_true (.inr h2)
      go_enter Tryz.func66, Tryz.ntmps66
      go_wp2
      go_ret
      exact ⟨by first | (rw [e.out]; rfl) | (simp; omega) | simp, HB.out⟩
    · have h2' : decide (c.eden < n) = false := decide_eq_false h2
      have e : Hid (decide (c.large ≤ n ∨ c.eden < n) = false) := decide_eq_false (by omega)
      go_enter Tryz.func66, Tryz.ntmps66
      go_wp2
      go_ret
      exact ⟨by first | (rw [e.out]; rfl) | (simp; omega) | simp, HB.out⟩

/-- What holds of a task. -/
structure Tok (c : Cfg) (k : Task) : Prop where
  bg : k.big = decide (c.large ≤ k.words ∨ c.eden < k.words)
  kd : 1 ≤ k.kind ∧ k.kind ≤ 5
  m : 0 ≤ k.most ∧ k.most ≤ 4294967296
  w1 : k.kind = 1 → 2 ≤ k.words
  w2 : k.words < 9223372036854775808

end Go.Proofs.YtcijdbhabbepaaaGreatDoor.Po
