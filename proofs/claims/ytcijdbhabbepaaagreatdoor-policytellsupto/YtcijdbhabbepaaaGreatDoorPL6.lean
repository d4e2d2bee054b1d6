/-
  Policy: what a turn does next: forced.
-/
import Derived.Test.YtcijdbhabbepaaaGreatDoorPL3
set_option linter.unusedVariables false
set_option maxRecDepth 20000
namespace Go.Proofs.YtcijdbhabbepaaaGreatDoor.Po
open Go.RowKit Go.Proofs.YtcijdbhabbepaaaGreatDoor.Kg

theorem shut_close (k : Task) (t : Tst) (x : Vw) : k.shut t.close x = k.shut t x := rfl

/-- What a turn tells that isn't closing. -/
def Task.live (k : Task) (t : Tst) (x : Vw) : Int × Tst := if (k.opn t x).1 = 0 then k.shut t x else k.opn t x

theorem live_sure {k : Task} {t : Tst} {x : Vw} (hk : k.kind = 2 ∨ k.kind = 3) (h : x.yo ≤ x.tr) : k.live t x = (k.kind + 1, t.close.app (k.kind + 1)) := by
  have h1 : k.kind ≠ 1 := by omega
  unfold Task.live Task.opn
  rw [if_neg h1, if_pos hk, if_pos h]
  rcases hk with e | e
  · rw [if_neg (show ¬ k.kind = 3 by omega), e]; rfl
  · rw [if_pos e, e]; rfl
theorem live_major {k : Task} {t : Tst} {x : Vw} (hk : k.kind = 2 ∨ k.kind = 3) (h : ¬ x.yo ≤ x.tr) (h3 : 3 ∉ t.ran) : k.live t x = (5, t.cyc 3) := by
  have h1 : k.kind ≠ 1 := by omega
  unfold Task.live Task.opn
  rw [if_neg h1, if_pos hk, if_neg h, if_pos h3]
  rfl
theorem live_shut {k : Task} {t : Tst} {x : Vw} (hk : k.kind = 2 ∨ k.kind = 3) (h : ¬ x.yo ≤ x.tr) (h3 : ¬ 3 ∉ t.ran) : k.live t x = k.shut t x := by
  have h1 : k.kind ≠ 1 := by omega
  unfold Task.live Task.opn
  rw [if_neg h1, if_pos hk, if_neg h, if_neg h3]
  rfl

set_option maxHeartbeats 8000000 in
theorem pforced_any {w : World} {base b : Nat} {v : Value} {g : Nat} {k : Task} {t : Tst} (h : Pt w base b v g k t) (hov : t.ov = false) (hk : k.kind = 2 ∨ k.kind = 3) (x : Vw) :
    Calls Tryz.prog 106 #[.pointer (some ⟨b, 0, none⟩), vv x, .pointer (some ⟨g, 0, none⟩)] w fun e w' => Did w w' base b v g k t (k.live t x) e := by
  obtain ⟨R, hR⟩ : ∃ R, R = k.live t x := ⟨_, rfl⟩
  rw [← hR]
  have HRs : Hid (R = k.live t x) := hR
  clear hR
  obtain ⟨w0, hw0⟩ : ∃ x9, x9 = w.alloc (.cells #[.int .i64 x.er, .int .i64 x.yo, .int .i64 x.te, .int .i64 x.tr] 54) := ⟨_, rfl⟩
  have hb0 : Below w.heap.size w w0 := by rw [hw0]; exact Below.alloc (Below.refl _ _) (Nat.le_refl _) _
  have hg0 : w0.heap[w.heap.size]? = some (.cells #[.int .i64 x.er, .int .i64 x.yo, .int .i64 x.te, .int .i64 x.tr] 54 (0, 0)) := by rw [hw0]; exact heap_alloc_new w _
  have h0 := h.below hb0
  have HP : Hid (Pt w0 base b v g k t) := h0
  have HT : Hid (Kg.Touch [b] w w0) := Kg.Touch.of_below hb0 [b]
  have HG : Hid (w0.heap[w.heap.size]? = some (.cells #[.int .i64 x.er, .int .i64 x.yo, .int .i64 x.te, .int .i64 x.tr] 54 (0, 0))) := hg0
  have Hov : Hid (t.ov = false ∧ b < w.heap.size) := ⟨hov, h.lt⟩
  have g0 : w0.cell? ⟨w.heap.size, 0, none⟩ = some (.int .i64 x.er) := heap_cell hg0 0
  have g1 : w0.cell? ⟨w.heap.size, 1, none⟩ = some (.int .i64 x.yo) := heap_cell hg0 1
  have g2 : w0.cell? ⟨w.heap.size, 2, none⟩ = some (.int .i64 x.te) := heap_cell hg0 2
  have g3 : w0.cell? ⟨w.heap.size, 3, none⟩ = some (.int .i64 x.tr) := heap_cell hg0 3
  have qg := guaranteed_any x w0
  clear h h0 hb0 hov hg0
  go_enter Tryz.func106, Tryz.ntmps106
  go_upto_region 1 with fail
  rw [← hw0]
  clear hw0
  go_wp2_with fail
  refine qg.mono ?_
  rintro e9 w1 ⟨rfl, hb⟩
  have HP1 : Hid (Pt w1 base b v g k t) := HP.out.below hb
  have HT1 : Hid (Kg.Touch [b] w w1) := HT.out.trans (Kg.Touch.of_below hb _)
  have HG1 : Hid (w1.heap[w.heap.size]? = some (.cells #[.int .i64 x.er, .int .i64 x.yo, .int .i64 x.te, .int .i64 x.tr] 54 (0, 0))) := (hb.block _ (heap_lt HG.out)).trans HG.out
  clear qg hb HP HT HG g0 g1 g2 g3
  by_cases a2 : x.yo ≤ x.tr
  · have e : Hid (R = (k.kind + 1, t.close.app (k.kind + 1))) := HRs.out.trans (live_sure hk a2)
    have cb := HP1.out.boxc hk
    have q := lastly_any HP1.out Hov.out.1 (k.kind + 1)
    rw [decide_eq_true a2]
    go_wp2_with fail
    refine q.mono ?_
    rintro e9 w3 ⟨rfl, h1, h2⟩
    have HA : Hid (Pt w3 base b v g k t.close ∧ Kg.Touch [b] w w3) := ⟨h1, HT1.out.trans h2⟩
    clear q h1 h2 cb
    go_wp2
    go_returns
    exact ⟨k.kind + 1, t.close, rfl, HA.out.1, HA.out.2, e.out, rfl⟩
  · rw [decide_eq_false a2]
    have qr := pran_any HP1.out 3
    by_cases m3 : 3 ∉ t.ran
    · have e : Hid (R = (5, t.cyc 3)) := HRs.out.trans (live_major hk a2 m3)
      rw [decide_eq_false m3] at qr
      go_wp2_with fail
      refine qr.mono ?_
      rintro e9 w9 ⟨rfl, rfl⟩
      clear qr
      go_wp2
      go_returns
      exact ⟨5, t, rfl, HP1.out, HT1.out, by rw [e.out, app_ne _ _ (by decide)]; rfl, rfl⟩
    · have e : Hid (R = k.shut t.close x) := HRs.out.trans (live_shut hk a2 m3)
      rw [decide_eq_true (Decidable.not_not.1 m3)] at qr
      have qe := enter_closing HP1.out Hov.out.1
      go_wp2_with fail
      refine qr.mono ?_
      rintro e9 w9 ⟨rfl, rfl⟩
      clear qr
      go_wp2_with fail
      refine qe.mono ?_
      rintro e9 w2 ⟨rfl, h1, h2⟩
      have HP2 : Hid (Pt w2 base b v g k t.close) := h1
      have HT2 : Hid (Kg.Touch [b] w w2) := HT1.out.trans h2
      have HG2 : Hid (w2.heap[w.heap.size]? = some (.cells #[.int .i64 x.er, .int .i64 x.yo, .int .i64 x.te, .int .i64 x.tr] 54 (0, 0))) := (h2.block _ (heap_lt HG1.out) (by have := Hov.out.2; simp; omega)).trans HG1.out
      clear qe h1 h2 HP1 HT1 HG1
      go_upto_region 6 with fail
      have g0 : w2.cell? ⟨w.heap.size, 0, none⟩ = some (.int .i64 x.er) := heap_cell HG2.out 0
      have g1 : w2.cell? ⟨w.heap.size, 1, none⟩ = some (.int .i64 x.yo) := heap_cell HG2.out 1
      have g2 : w2.cell? ⟨w.heap.size, 2, none⟩ = some (.int .i64 x.te) := heap_cell HG2.out 2
      have g3 : w2.cell? ⟨w.heap.size, 3, none⟩ = some (.int .i64 x.tr) := heap_cell HG2.out 3
      have c3 := HP2.out.cell 3 fnClosing (by rw [show act k t.close g = fnClosing from act_close g Hov.out.1]; rfl)
      have HP3 : Hid (Pt w2.drew base b v g k t.close) := HP2.out.below ((Kg.Touch.drew [] w2).below (Nat.le_refl _) (fun k hk => by cases hk))
      have HT3 : Hid (Kg.Touch [b] w w2.drew) := HT2.out.trans (Kg.Touch.drew _ _)
      have q := closing_any HP3.out Hov.out.1 (.inl rfl) x
      refine quiet_call 6 mixed (by kernel_rfl) ?_
      simp only [List.take_succ_cons, List.take_zero, List.drop_succ_cons, List.drop_zero]
      repeat (go_big_quiet_step (fail))
      refine wpQuiet_nil ?_
      go_wp2_with fail
      refine q.mono ?_
      rintro e9 w4 ⟨s4, t4, rfl, h1, h2, h3, h4⟩
      have HA : Hid (Pt w4 base b v g k t4 ∧ Kg.Touch [b] w w4 ∧ k.shut t.close x = (s4, t4.app s4) ∧ t4.ran = t.ran) := ⟨h1, HT3.out.trans h2, h3, h4⟩
      clear q h1 h2 h3 h4 g0 g1 g2 g3 c3
      go_wp2_with fail
      refine thenQuiet_mk ?_
      repeat (go_big_quiet_step (fail))
      refine wpQuiet_nil ?_
      go_wp2
      go_ret
      exact ⟨s4, t4, rfl, HA.out.1, HA.out.2.1, e.out.trans HA.out.2.2.1, HA.out.2.2.2⟩

end Go.Proofs.YtcijdbhabbepaaaGreatDoor.Po
